package parse

import "krait/api"

// enter begins a block at the next token, which is wrong if the block is too deep.
func (p *parser) enter() {
	if p.blocks == api.MaxNest {
		p.fail(api.ErrDepth)
	}
	p.blocks++
}

func (p *parser) leave() { p.blocks-- }

// block reads a block, from the : ahead of it on.
func (p *parser) block() int {
	p.must(sign(":"))
	p.line()
	if p.mark() == anyOf(api.TokIn) {
		p.enter()
	}
	p.must(anyOf(api.TokIn))
	at := p.at()
	all := []int{p.statement()}
	for !p.take(anyOf(api.TokOut)) {
		all = append(all, p.statement())
	}
	p.leave()
	return p.add(api.SBlock, at, "", all...)
}

// choice reads on behind an if, and behind an elif.
func (p *parser) choice(op, at int) int {
	all := []int{p.expr(), p.block()}
	if p.mark() == word("elif") {
		all = append(all, p.elif(op))
	} else if p.take(word("else")) {
		all = append(all, p.block())
	}
	return p.add(op, at, "", all...)
}

// elif reads what stands there for an else with nothing but an if in it.
func (p *parser) elif(op int) int {
	p.enter()
	at := p.next().At
	x := p.choice(op, at)
	p.leave()
	return p.add(api.SBlock, at, "", x)
}

func (p *parser) while(op, at int) int {
	return p.add(op, at, "", p.expr(), p.block())
}

// each reads on behind a for. The in behind its first expression is none of a comparison.
func (p *parser) each(op, at int) int {
	end := p.eachEnd()
	target := p.exprUpTo(end)
	if p.pos < end {
		p.fail(api.ErrSyntax)
	}
	p.mustBe(wide)
	p.must(word("in"))
	return p.add(op, at, "", target, p.expr(), p.block())
}

// eachEnd is the number of the token ahead of which the first expression of a for must end.
func (p *parser) eachEnd() int {
	open := 0
	for i, tok := range p.l[p.pos:] {
		switch markOf(tok) {
		case sign("("), sign("["), sign("{"):
			open++
		case sign(")"), sign("]"), sign("}"):
			open--
		case word("in"):
			// Brackets that close more than is open are wrong by themselves.
			if open <= 0 {
				return p.pos + i
			}
		case anyOf(api.TokLine), anyOf(api.TokIn), anyOf(api.TokOut), anyOf(api.TokEnd):
			return p.pos + i
		}
	}
	return len(p.l)
}

func (p *parser) def(op, at int) int {
	name := p.name()
	p.must(sign("("))
	all := p.parameters()
	return p.add(op, at, name, append(all, p.block())...)
}

// parameters are those of a def, up to the bracket that closes, with none behind their last comma.
func (p *parser) parameters() []int {
	var all []int
	valued := false
	for !p.take(sign(")")) {
		if len(all) > 0 {
			p.must(sign(","))
		}
		at := p.at()
		name := p.name()
		var value []int
		if p.take(sign("=")) {
			value = append(value, p.expr())
		} else if valued {
			panic(wrong{at, api.ErrSyntax})
		}
		valued = len(value) > 0
		all = append(all, p.add(api.OParam, at, name, value...))
	}
	return all
}

func (p *parser) class(op, at int) int {
	name := p.name()
	var all []int
	if p.take(sign("(")) {
		all = p.bases()
	}
	return p.add(op, at, name, append(all, p.block())...)
}

// bases are expressions up to the bracket that closes; a comma may stand behind the last one.
func (p *parser) bases() []int {
	var all []int
	for !p.take(sign(")")) {
		all = append(all, p.expr())
		if !p.take(sign(",")) {
			p.must(sign(")"))
			break
		}
	}
	return all
}

func (p *parser) try(op, at int) int {
	all := []int{p.block()}
	for more := true; more && p.mark() == word("except"); {
		var handler int
		handler, more = p.handler()
		all = append(all, handler)
	}
	if p.mark() == word("finally") {
		all = append(all, p.add(api.SFinal, p.next().At, "", p.block()))
	}
	if len(all) == 1 {
		p.fail(api.ErrSyntax)
	}
	return p.add(op, at, "", all...)
}

// handler reads one, and tells whether another one may stand behind it: not where it takes all.
func (p *parser) handler() (node int, more bool) {
	at := p.next().At
	if p.mark() == sign(":") {
		return p.add(api.SHandler, at, "", p.block()), false
	}
	x, name := p.expr(), ""
	if p.take(word("as")) {
		name = p.name()
	}
	return p.add(api.SHandler, at, name, x, p.block()), true
}
