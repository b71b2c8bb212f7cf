package express

import "krait/api"

// start reads a part from its first token on; it binds as tight as level says.
type start struct {
	level int
	read  func() part
}

// allStarts are what begins a part.
func (p *parser) allStarts() map[mark]start {
	return map[mark]start{
		word("lambda"):    {levelExpr, p.lambda},
		word("not"):       {levelNot, p.not},
		sign("-"):         {levelFactor, p.negative},
		anyName:           {levelPostfix, p.name},
		anyOf(api.TokInt): {levelPostfix, p.integer},
		anyOf(api.TokStr): {levelPostfix, p.str},
		word("None"):      {levelPostfix, p.none},
		word("True"):      {levelPostfix, p.yes},
		word("False"):     {levelPostfix, p.no},
		sign("("):         {levelPostfix, p.tuple},
		sign("["):         {levelPostfix, p.list},
		sign("{"):         {levelPostfix, p.dict},
	}
}

// begin reads what stands ahead of any operator between parts: a part that binds at least so tight must begin there.
func (p *parser) begin(least int) part {
	s, ok := p.starts[p.mark(0)]
	if !ok || s.level < least {
		p.fail(api.ErrSyntax)
		return part{}
	}
	x := s.read()
	x.level = s.level
	return x
}

func (p *parser) lambda() part {
	at := p.next().At
	kids := p.parameters()
	p.must(sign(":"))
	kids = append(kids, p.expr())
	return p.add(api.OLambda, at, "", 0, kids...)
}

// parameters are those of a lambda, with commas between, and none behind the last one.
func (p *parser) parameters() []part {
	var all []part
	valued := false
	for more := p.mark(0) != sign(":"); more; more = p.take(sign(",")) {
		values := p.mark(1) == sign("=")
		if p.mark(0) != anyName || valued && !values {
			p.fail(api.ErrSyntax)
			return nil
		}
		valued = values
		all = append(all, p.parameter())
	}
	return all
}

func (p *parser) parameter() part {
	name := p.next()
	if p.take(sign("=")) {
		return p.add(api.OParam, name.At, name.Text, 0, p.expr())
	}
	return p.add(api.OParam, name.At, name.Text, 0)
}

func (p *parser) not() part {
	at := p.next().At
	return p.add(api.ONot, at, "", 0, p.atLeast(levelNot))
}

func (p *parser) negative() part {
	at := p.next().At
	return p.add(api.ONeg, at, "", 0, p.atLeast(levelFactor))
}

func (p *parser) name() part {
	tok := p.next()
	return p.add(api.OName, tok.At, tok.Text, 0)
}

func (p *parser) integer() part {
	tok := p.next()
	return p.add(api.OInt, tok.At, "", tok.N)
}

func (p *parser) str() part {
	tok := p.next()
	return p.add(api.OStr, tok.At, tok.Text, 0)
}

func (p *parser) none() part { return p.add(api.ONone, p.next().At, "", 0) }

func (p *parser) yes() part { return p.add(api.OTrue, p.next().At, "", 0) }

func (p *parser) no() part { return p.add(api.OFalse, p.next().At, "", 0) }

// tuple reads a tuple, or what stands in brackets for its own sake.
func (p *parser) tuple() part {
	at := p.next().At
	items, comma := p.row(sign(")"), p.single)
	if len(items) == 1 && !comma {
		return items[0]
	}
	return p.add(api.OTuple, at, "", 0, items...)
}

func (p *parser) list() part {
	at := p.next().At
	items, _ := p.row(sign("]"), p.single)
	return p.add(api.OList, at, "", 0, items...)
}

func (p *parser) dict() part {
	at := p.next().At
	items, _ := p.row(sign("}"), p.pair)
	return p.add(api.ODict, at, "", 0, items...)
}
