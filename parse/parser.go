package parse

import (
	"krait/api"
	"krait/express"
	"krait/scan"
	"krait/tree"
)

// parser is how far tokens are read, and how many blocks go on there.
type parser struct {
	b      tree.Builder
	l      []api.Tok
	pos    int
	blocks int
	starts map[mark]start
}

func newParser(l []api.Tok) *parser {
	p := &parser{l: l}
	p.starts = p.allStarts()
	return p
}

// mark is all of a token that says what it is to a statement.
type mark struct {
	kind int
	text string
}

func word(text string) mark { return mark{api.TokName, text} }

func sign(text string) mark { return mark{api.TokOp, text} }

// anyOf is the mark of all tokens of a kind whose text plays no part.
func anyOf(kind int) mark { return mark{kind, ""} }

func markOf(tok api.Tok) mark {
	if tok.Kind == api.TokName || tok.Kind == api.TokOp {
		return mark{tok.Kind, tok.Text}
	}
	return anyOf(tok.Kind)
}

// mark is that of the next token; of none, if there is none.
func (p *parser) mark() mark {
	if p.pos == len(p.l) {
		return mark{}
	}
	return markOf(p.l[p.pos])
}

// at is the place of the next token; behind the last one it is that one's.
func (p *parser) at() int {
	if len(p.l) == 0 {
		return 0
	}
	return p.l[min(p.pos, len(p.l)-1)].At
}

// fail says what is wrong with the next token.
func (p *parser) fail(e api.Errno) { panic(wrong{p.at(), e}) }

// next takes the next token, which must be there.
func (p *parser) next() api.Tok {
	p.pos++
	return p.l[p.pos-1]
}

// take takes the next token, if it is of the mark.
func (p *parser) take(m mark) bool {
	if p.mark() != m {
		return false
	}
	p.pos++
	return true
}

// must takes the next token, which is wrong if it is not of the mark.
func (p *parser) must(m mark) {
	if !p.take(m) {
		p.fail(api.ErrSyntax)
	}
}

// line takes the end of a line, which must be there.
func (p *parser) line() { p.must(anyOf(api.TokLine)) }

// name takes a name, which must be there.
func (p *parser) name() string {
	if m := p.mark(); m.kind != api.TokName || !scan.Name(m.text) {
		p.fail(api.ErrSyntax)
	}
	return p.next().Text
}

// add adds the node of what was read up to here.
func (p *parser) add(op, at int, s string, kids ...int) int {
	return p.b.Add(op, at, s, 0, kids...)
}

// expr reads an expression, as far as it goes on.
func (p *parser) expr() int { return p.exprUpTo(len(p.l)) }

// exprUpTo reads an expression for which there are no tokens from that number on.
func (p *parser) exprUpTo(end int) int {
	node, used, e := express.Parse(&p.b, p.l[p.pos:end])
	p.pos += used
	if e != api.OK {
		p.fail(e)
	}
	return node
}

// mustBe says what is wrong, if the expression that was read last is no such target.
func (p *parser) mustBe(target func(t api.Tree, n api.Node) bool) {
	// Behind an expression its node is the last one, so that this is the expression's own tree.
	t := p.b.Tree()
	root := t[len(t)-1]
	if !target(t, root) {
		panic(wrong{root.At, api.ErrTarget})
	}
}

// narrow tells whether a node is a target.
func narrow(_ api.Tree, n api.Node) bool {
	return n.Op == api.OName || n.Op == api.OAttr || n.Op == api.OIndex
}

// wide tells whether a node is a target, or a tuple of these.
func wide(t api.Tree, n api.Node) bool {
	if n.Op != api.OTuple {
		return narrow(t, n)
	}
	for _, kid := range n.Kids {
		if !narrow(t, t[kid]) {
			return false
		}
	}
	return len(n.Kids) > 0
}
