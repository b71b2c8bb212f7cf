package unparse

import (
	"strconv"

	"krait/api"
	"krait/scan"
)

// at writes an expression where only such a level, or a greater one, stands without brackets.
func (p printer) at(least, node int) {
	n := p.t[node]
	if level(n) >= least {
		p.put(n)
		return
	}
	p.say("(")
	p.put(n)
	p.say(")")
}

// expr writes an expression where any one stands without brackets.
func (p printer) expr(node int) { p.at(levelLambda, node) }

// items writes expressions, or parameters, with commas between.
func (p printer) items(nodes []int) {
	for i, node := range nodes {
		if i > 0 {
			p.say(", ")
		}
		p.expr(node)
	}
}

func (p printer) none(api.Node) { p.say("None") }

func (p printer) yes(api.Node) { p.say("True") }

func (p printer) no(api.Node) { p.say("False") }

func (p printer) integer(n api.Node) { p.say(strconv.FormatInt(n.N, 10)) }

func (p printer) str(n api.Node) { p.say(scan.Quote(n.S)) }

func (p printer) name(n api.Node) { p.say(n.S) }

func (p printer) list(n api.Node) {
	p.say("[")
	p.items(n.Kids)
	p.say("]")
}

func (p printer) tuple(n api.Node) {
	p.say("(")
	p.items(n.Kids)
	if len(n.Kids) == 1 {
		p.say(",")
	}
	p.say(")")
}

func (p printer) dict(n api.Node) {
	p.say("{")
	for i := 0; i < len(n.Kids); i += 2 {
		if i > 0 {
			p.say(", ")
		}
		p.expr(n.Kids[i])
		p.say(": ")
		p.expr(n.Kids[i+1])
	}
	p.say("}")
}

func (p printer) negative(n api.Node) {
	p.say("-")
	p.at(levelFactor, n.Kids[0])
}

func (p printer) not(n api.Node) {
	p.say("not ")
	p.at(levelNot, n.Kids[0])
}

// between writes an operator between two kids that stand at such levels.
func (p printer) between(n api.Node, operator string, left, right int) {
	p.at(left, n.Kids[0])
	p.say(" ", operator, " ")
	p.at(right, n.Kids[1])
}

func (p printer) arithmetic(n api.Node) {
	switch level(n) {
	case levelSum:
		p.between(n, n.S, levelSum, levelTerm)
	case levelTerm:
		p.between(n, n.S, levelTerm, levelFactor)
	default:
		// Behind ** a - of one needs no brackets, and ** goes on from the right.
		p.between(n, n.S, levelPostfix, levelFactor)
	}
}

func (p printer) comparison(n api.Node) { p.between(n, n.S, levelSum, levelSum) }

func (p printer) and(n api.Node) { p.between(n, "and", levelAnd, levelNot) }

func (p printer) or(n api.Node) { p.between(n, "or", levelOr, levelAnd) }

func (p printer) conditional(n api.Node) {
	p.at(levelOr, n.Kids[0])
	p.say(" if ")
	p.at(levelOr, n.Kids[1])
	p.say(" else ")
	p.expr(n.Kids[2])
}

func (p printer) call(n api.Node) {
	p.at(levelPostfix, n.Kids[0])
	p.say("(")
	p.items(n.Kids[1:])
	p.say(")")
}

func (p printer) attribute(n api.Node) {
	p.at(levelPostfix, n.Kids[0])
	p.say(".", n.S)
}

func (p printer) index(n api.Node) {
	p.at(levelPostfix, n.Kids[0])
	p.say("[")
	p.expr(n.Kids[1])
	p.say("]")
}

func (p printer) slice(n api.Node) {
	p.at(levelPostfix, n.Kids[0])
	p.say("[")
	p.bound(n.Kids[1])
	p.say(":")
	p.bound(n.Kids[2])
	p.say("]")
}

// bound writes one of a slice's: a None is what a bound that is not there means.
func (p printer) bound(node int) {
	if p.t[node].Op != api.ONone {
		p.expr(node)
	}
}

func (p printer) lambda(n api.Node) {
	parameters, value := cutLast(n.Kids)
	p.say("lambda")
	if len(parameters) > 0 {
		p.say(" ")
		p.items(parameters)
	}
	p.say(": ")
	p.expr(value)
}

func (p printer) parameter(n api.Node) {
	p.say(n.S)
	if len(n.Kids) > 0 {
		p.say("=")
		p.expr(n.Kids[0])
	}
}

// cutLast is a row, one at least, as those ahead of the last one, and that.
func cutLast(row []int) (ahead []int, last int) {
	return row[:len(row)-1], row[len(row)-1]
}
