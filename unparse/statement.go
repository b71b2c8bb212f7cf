package unparse

import (
	"strings"

	"krait/api"
)

// statements writes the lines of each.
func (p printer) statements(nodes []int) {
	for _, node := range nodes {
		p.margin()
		p.put(p.t[node])
	}
}

// margin begins a line.
func (p printer) margin() { p.say(strings.Repeat("    ", p.indent)) }

// end ends a line.
func (p printer) end() { p.say("\n") }

// block ends a line that has a block, and writes that one's lines.
func (p printer) block(node int) {
	p.say(":\n")
	inner := p
	inner.indent++
	inner.statements(p.t[node].Kids)
}

func (p printer) plain(n api.Node) {
	p.expr(n.Kids[0])
	p.end()
}

func (p printer) assign(n api.Node) { p.set(n, " = ") }

func (p printer) augment(n api.Node) { p.set(n, " "+n.S+"= ") }

func (p printer) set(n api.Node, sign string) {
	p.expr(n.Kids[0])
	p.say(sign)
	p.expr(n.Kids[1])
	p.end()
}

func (p printer) choice(n api.Node) { p.choiceBy("if ", n) }

func (p printer) choiceBy(word string, n api.Node) {
	p.say(word)
	p.expr(n.Kids[0])
	p.block(n.Kids[1])
	if len(n.Kids) == 2 {
		return
	}
	p.margin()
	rest := p.t[n.Kids[2]].Kids
	if first := p.t[rest[0]]; len(rest) == 1 && first.Op == api.SIf {
		p.choiceBy("elif ", first)
		return
	}
	p.say("else")
	p.block(n.Kids[2])
}

func (p printer) while(n api.Node) {
	p.say("while ")
	p.expr(n.Kids[0])
	p.block(n.Kids[1])
}

func (p printer) each(n api.Node) {
	p.say("for ")
	p.expr(n.Kids[0])
	p.say(" in ")
	p.expr(n.Kids[1])
	p.block(n.Kids[2])
}

func (p printer) stop(api.Node) { p.say("break\n") }

func (p printer) next(api.Node) { p.say("continue\n") }

func (p printer) pass(api.Node) { p.say("pass\n") }

func (p printer) def(n api.Node) {
	parameters, body := cutLast(n.Kids)
	p.say("def ", n.S, "(")
	p.items(parameters)
	p.say(")")
	p.block(body)
}

func (p printer) class(n api.Node) {
	bases, body := cutLast(n.Kids)
	p.say("class ", n.S)
	if len(bases) > 0 {
		p.say("(")
		p.items(bases)
		p.say(")")
	}
	p.block(body)
}

func (p printer) answer(n api.Node) { p.perhaps("return", n) }

func (p printer) raise(n api.Node) { p.perhaps("raise", n) }

// perhaps writes a word, and the expression behind it, if there is one.
func (p printer) perhaps(word string, n api.Node) {
	p.say(word)
	if len(n.Kids) > 0 {
		p.say(" ")
		p.expr(n.Kids[0])
	}
	p.end()
}

func (p printer) try(n api.Node) {
	p.say("try")
	p.block(n.Kids[0])
	// Handlers, and what is done at last, stand there as statements would.
	p.statements(n.Kids[1:])
}

func (p printer) handler(n api.Node) {
	classes, body := cutLast(n.Kids)
	p.say("except")
	for _, class := range classes {
		p.say(" ")
		p.expr(class)
	}
	if n.S != "" {
		p.say(" as ", n.S)
	}
	p.block(body)
}

func (p printer) final(n api.Node) {
	p.say("finally")
	p.block(n.Kids[0])
}

func (p printer) global(n api.Node) { p.names("global ", n.S) }

func (p printer) nonlocal(n api.Node) { p.names("nonlocal ", n.S) }

// names writes names that stand in a text with blanks between.
func (p printer) names(word, all string) {
	p.say(word, strings.ReplaceAll(all, " ", ", "))
	p.end()
}

func (p printer) del(n api.Node) {
	p.say("del ")
	p.plain(n)
}

func (p printer) assert(n api.Node) {
	p.say("assert ")
	p.items(n.Kids)
	p.end()
}

func (p printer) yield(n api.Node) {
	p.say("yield ")
	p.plain(n)
}
