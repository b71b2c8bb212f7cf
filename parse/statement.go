package parse

import (
	"strings"

	"krait/api"
)

// start reads on behind the word that begins a statement: what that is, and where it stood, it is told.
type start struct {
	op   int
	read func(op, at int) int
}

// allStarts are the words that begin statements; what none of them begins, begins with an expression.
func (p *parser) allStarts() map[mark]start {
	return map[mark]start{
		word("pass"):     {api.SPass, p.alone},
		word("break"):    {api.SBreak, p.alone},
		word("continue"): {api.SContinue, p.alone},
		word("return"):   {api.SReturn, p.perhaps},
		word("raise"):    {api.SRaise, p.perhaps},
		word("global"):   {api.SGlobal, p.names},
		word("nonlocal"): {api.SNonlocal, p.names},
		word("del"):      {api.SDel, p.del},
		word("assert"):   {api.SAssert, p.assert},
		word("yield"):    {api.SYield, p.one},
		word("if"):       {api.SIf, p.choice},
		word("while"):    {api.SWhile, p.while},
		word("for"):      {api.SFor, p.each},
		word("def"):      {api.SDef, p.def},
		word("class"):    {api.SClass, p.class},
		word("try"):      {api.STry, p.try},
	}
}

// module reads all tokens.
func (p *parser) module() int {
	var all []int
	for !p.take(anyOf(api.TokEnd)) {
		all = append(all, p.statement())
	}
	if p.pos < len(p.l) {
		p.fail(api.ErrSyntax)
	}
	return p.add(api.SModule, 0, "", all...)
}

func (p *parser) statement() int {
	if s, ok := p.starts[p.mark()]; ok {
		return s.read(s.op, p.next().At)
	}
	return p.plain()
}

// plain reads a statement that begins with an expression.
func (p *parser) plain() int {
	at := p.at()
	x := p.expr()
	sets := p.mark()
	switch sets {
	case sign("="):
		p.mustBe(wide)
		return p.set(api.SAssign, at, "", x)
	case sign("+="), sign("-="), sign("*="), sign("//="), sign("%="), sign("**="):
		p.mustBe(narrow)
		return p.set(api.SAug, at, strings.TrimSuffix(sets.text, "="), x)
	}
	p.line()
	return p.add(api.SExpr, at, "", x)
}

// set reads on from the sign between a target and what it is set to.
func (p *parser) set(op, at int, s string, target int) int {
	p.next()
	x := p.expr()
	p.line()
	return p.add(op, at, s, target, x)
}

func (p *parser) alone(op, at int) int {
	p.line()
	return p.add(op, at, "")
}

func (p *parser) one(op, at int) int {
	x := p.expr()
	p.line()
	return p.add(op, at, "", x)
}

// perhaps reads an expression, if the line does not end ahead of it.
func (p *parser) perhaps(op, at int) int {
	if p.mark() == anyOf(api.TokLine) {
		return p.alone(op, at)
	}
	return p.one(op, at)
}

func (p *parser) names(op, at int) int {
	all := []string{p.name()}
	for p.take(sign(",")) {
		all = append(all, p.name())
	}
	p.line()
	return p.add(op, at, strings.Join(all, " "))
}

func (p *parser) del(op, at int) int {
	x := p.expr()
	p.mustBe(narrow)
	p.line()
	return p.add(op, at, "", x)
}

func (p *parser) assert(op, at int) int {
	all := []int{p.expr()}
	if p.take(sign(",")) {
		all = append(all, p.expr())
	}
	p.line()
	return p.add(op, at, "", all...)
}
