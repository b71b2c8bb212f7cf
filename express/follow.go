package express

import (
	"slices"

	"krait/api"
)

// follow reads on behind a part, from an operator's first token on; what that makes of it binds as tight as level says.
type follow struct {
	level int
	read  func(x part) part
}

// allFollows are what goes on a part, by the first tokens of operators.
func (p *parser) allFollows() map[mark]follow {
	sum, product := follow{levelSum, p.sum}, follow{levelTerm, p.product}
	comparison := follow{levelCompare, p.comparison}
	return map[mark]follow{
		word("if"):  {levelExpr, p.choice},
		word("or"):  {levelOr, p.or},
		word("and"): {levelAnd, p.and},
		sign("=="):  comparison,
		sign("!="):  comparison,
		sign("<"):   comparison,
		sign("<="):  comparison,
		sign(">"):   comparison,
		sign(">="):  comparison,
		word("in"):  comparison,
		word("not"): comparison,
		word("is"):  comparison,
		sign("+"):   sum,
		sign("-"):   sum,
		sign("*"):   product,
		sign("//"):  product,
		sign("%"):   product,
		sign("**"):  {levelPower, p.product},
		sign("."):   {levelPostfix, p.attribute},
		sign("("):   {levelPostfix, p.call},
		sign("["):   {levelPostfix, p.item},
	}
}

// follow is what goes on with the next token, if it is an operator's first one: a not is none without an in.
func (p *parser) follow() (follow, bool) {
	if p.mark(0) == word("not") && p.mark(1) != word("in") {
		return follow{}, false
	}
	f, ok := p.follows[p.mark(0)]
	return f, ok
}

// compares tells whether the next token is the first one of a comparison operator, or a not.
func (p *parser) compares() bool { return p.follows[p.mark(0)].level == levelCompare }

func (p *parser) choice(x part) part {
	p.next()
	test := p.atLeast(levelOr)
	p.must(word("else"))
	return p.add(api.OIf, x.at, "", 0, x, test, p.expr())
}

func (p *parser) or(x part) part {
	p.next()
	return p.add(api.OOr, x.at, "", 0, x, p.atLeast(levelAnd))
}

func (p *parser) and(x part) part {
	p.next()
	return p.add(api.OAnd, x.at, "", 0, x, p.atLeast(levelNot))
}

func (p *parser) comparison(x part) part {
	op := p.next().Text
	if op == "not" || op == "is" && p.mark(0) == word("not") {
		op += " " + p.next().Text
	}
	return p.add(api.OCmp, x.at, op, 0, x, p.atLeast(levelSum))
}

func (p *parser) sum(x part) part {
	op := p.next().Text
	return p.add(api.OBin, x.at, op, 0, x, p.atLeast(levelTerm))
}

// product reads on behind a power's first part too: behind both operators a factor stands.
func (p *parser) product(x part) part {
	op := p.next().Text
	return p.add(api.OBin, x.at, op, 0, x, p.atLeast(levelFactor))
}

func (p *parser) attribute(x part) part {
	p.next()
	if p.mark(0) != anyName {
		p.fail(api.ErrSyntax)
		return part{}
	}
	return p.add(api.OAttr, x.at, p.next().Text, 0, x)
}

func (p *parser) call(x part) part {
	p.next()
	items, _ := p.row(sign(")"), p.single)
	return p.add(api.OCall, x.at, "", 0, slices.Insert(items, 0, x)...)
}

// item reads an index, or a slice.
func (p *parser) item(x part) part {
	p.next()
	from := p.exprAheadOf(sign(":"))
	if p.take(sign("]")) {
		return p.add(api.OIndex, x.at, "", 0, x, from)
	}
	p.must(sign(":"))
	to := p.exprAheadOf(sign("]"))
	p.must(sign("]"))
	return p.add(api.OSlice, x.at, "", 0, x, from, to)
}

// exprAheadOf reads an expression, or nothing: then the sign that stands behind it is where it would be.
func (p *parser) exprAheadOf(m mark) part {
	if p.mark(0) == m {
		return p.add(api.ONone, p.l[p.pos].At, "", 0)
	}
	return p.expr()
}
