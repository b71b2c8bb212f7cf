package express

import (
	"krait/api"
	"krait/scan"
	"krait/tree"
)

// part is an expression that was read: its node, that one's At and Depth, and how tight it binds.
type part struct{ node, at, depth, level int }

// parser is how far tokens are read, and what is wrong there. Behind an error no token is seen any more, so that all that goes on comes to its end by itself.
type parser struct {
	b       *tree.Builder
	l       []api.Tok
	pos     int
	e       api.Errno
	starts  map[mark]start
	follows map[mark]follow
}

func newParser(b *tree.Builder, l []api.Tok) *parser {
	p := &parser{b: b, l: l}
	p.starts = p.allStarts()
	p.follows = p.allFollows()
	return p
}

// mark is all of a token that says which part it begins, or goes on.
type mark struct {
	kind int
	text string
}

// anyName is the mark of all names: one of them, so that no other word has it.
var anyName = mark{api.TokName, "_"}

func word(text string) mark { return mark{api.TokName, text} }

func sign(text string) mark { return mark{api.TokOp, text} }

// anyOf is the mark of all tokens of a kind whose text plays no part.
func anyOf(kind int) mark { return mark{kind, ""} }

func markOf(tok api.Tok) mark {
	switch {
	case tok.Kind == api.TokInt, tok.Kind == api.TokStr:
		return anyOf(tok.Kind)
	case tok.Kind == api.TokName && scan.Name(tok.Text):
		return anyName
	}
	return mark{tok.Kind, tok.Text}
}

// mark is that of the token so far behind the next one; no part's, if there is none.
func (p *parser) mark(ahead int) mark {
	if p.e != api.OK || ahead >= len(p.l)-p.pos {
		return mark{}
	}
	return markOf(p.l[p.pos+ahead])
}

// next takes the next token, which must be there.
func (p *parser) next() api.Tok {
	p.pos++
	return p.l[p.pos-1]
}

// take takes the next token, if it is of the mark.
func (p *parser) take(m mark) bool {
	if p.mark(0) != m {
		return false
	}
	p.pos++
	return true
}

// must takes the next token, which is wrong if it is not of the mark.
func (p *parser) must(m mark) {
	if !p.take(m) {
		p.fail(api.ErrSyntax)
	}
}

// fail says what is wrong with the next token, unless something was wrong ahead.
func (p *parser) fail(e api.Errno) {
	if p.e == api.OK {
		p.e = e
	}
}

// add adds the node of what was read up to here.
func (p *parser) add(op, at int, s string, n int64, kids ...part) part {
	depth := 1
	numbers := make([]int, len(kids))
	for i, kid := range kids {
		// tree.Depth would go through all that is below, again for each node.
		depth = max(depth, kid.depth+1)
		numbers[i] = kid.node
	}
	if depth > api.MaxNest {
		p.fail(api.ErrDepth)
	}
	if p.e != api.OK {
		return part{}
	}
	return part{node: p.b.Add(op, at, s, n, numbers...), at: at, depth: depth}
}

// expr reads an expression of any kind.
func (p *parser) expr() part { return p.atLeast(levelExpr) }

// atLeast reads an expression that binds at least so tight, as far as it goes on.
func (p *parser) atLeast(least int) part {
	x := p.begin(least)
	for {
		f, ok := p.follow()
		if !ok || f.level < least || !goesOn(f.level, x) {
			return x
		}
		x = f.read(x)
		x.level = f.level
	}
}

// goesOn tells whether an operator of that level may stand behind a part. Of comparisons none stands behind another.
func goesOn(level int, x part) bool {
	return level < x.level || level == x.level && level != levelCompare
}

// row reads items, with commas between, up to the bracket that closes; and whether a comma stands behind the last one.
func (p *parser) row(closer mark, item func() []part) (all []part, comma bool) {
	for !p.take(closer) {
		all = append(all, item()...)
		if !p.take(sign(",")) {
			p.must(closer)
			return all, false
		}
	}
	return all, len(all) > 0
}

// single is an item of one expression.
func (p *parser) single() []part { return []part{p.expr()} }

// pair is an item of a dict: a key, and its value.
func (p *parser) pair() []part {
	key := p.expr()
	p.must(sign(":"))
	return []part{key, p.expr()}
}
