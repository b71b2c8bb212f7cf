package express_test

import (
	"krait/api"
	"krait/scan"
)

// model reads tokens by the chapter's table, a function for each row of it; it gives up at the first wrong token, and knows no Depth.
type model struct {
	l     []api.Tok
	pos   int
	nodes api.Tree
}

// stop is what a model gives up with.
type stop struct{ place int }

// modelled is what the table says of tokens: the nodes, and how many tokens they have; or the place of the wrong one.
func modelled(l []api.Tok) (nodes api.Tree, used int, e api.Errno) {
	m := &model{l: l}
	defer func() {
		switch s := recover().(type) {
		case nil:
		case stop:
			nodes, used, e = nil, s.place, api.ErrSyntax
		default:
			panic(s)
		}
	}()
	m.expr()
	return m.nodes, m.pos, api.OK
}

func (m *model) isWord(ahead int, s string) bool {
	i := m.pos + ahead
	return i < len(m.l) && m.l[i].Kind == api.TokName && m.l[i].Text == s
}

func (m *model) isSign(s ...string) bool {
	for _, x := range s {
		if m.pos < len(m.l) && m.l[m.pos].Kind == api.TokOp && m.l[m.pos].Text == x {
			return true
		}
	}
	return false
}

func (m *model) wrong() { panic(stop{m.pos}) }

func (m *model) sign(s string) {
	if !m.isSign(s) {
		m.wrong()
	}
	m.pos++
}

func (m *model) text() string {
	m.pos++
	return m.l[m.pos-1].Text
}

func (m *model) at() int { return m.l[m.pos].At }

func (m *model) node(op, at int, s string, n int64, kids ...int) int {
	m.nodes = append(m.nodes, api.Node{Op: op, At: at, S: s, N: n, Kids: kids})
	return len(m.nodes) - 1
}

// over is a node with its first kid's place.
func (m *model) over(op int, s string, kids ...int) int {
	return m.node(op, m.nodes[kids[0]].At, s, 0, kids...)
}

func (m *model) expr() int {
	if m.isWord(0, "lambda") {
		return m.lambda()
	}
	x := m.or()
	if !m.isWord(0, "if") {
		return x
	}
	m.pos++
	test := m.or()
	if !m.isWord(0, "else") {
		m.wrong()
	}
	m.pos++
	return m.over(api.OIf, "", x, test, m.expr())
}

func (m *model) lambda() int {
	at := m.at()
	m.pos++
	var kids []int
	valued := false
	for !m.isSign(":") {
		if len(kids) > 0 {
			m.sign(",")
		}
		place := m.pos
		name, nameAt := m.name()
		switch {
		case m.isSign("="):
			m.pos++
			valued = true
			kids = append(kids, m.node(api.OParam, nameAt, name, 0, m.expr()))
		case valued:
			panic(stop{place})
		default:
			kids = append(kids, m.node(api.OParam, nameAt, name, 0))
		}
	}
	m.pos++
	return m.node(api.OLambda, at, "", 0, append(kids, m.expr())...)
}

func (m *model) name() (string, int) {
	if m.pos == len(m.l) || m.l[m.pos].Kind != api.TokName || !scan.Name(m.l[m.pos].Text) {
		m.wrong()
	}
	at := m.at()
	return m.text(), at
}

func (m *model) or() int {
	x := m.and()
	for m.isWord(0, "or") {
		m.pos++
		x = m.over(api.OOr, "", x, m.and())
	}
	return x
}

func (m *model) and() int {
	x := m.not()
	for m.isWord(0, "and") {
		m.pos++
		x = m.over(api.OAnd, "", x, m.not())
	}
	return x
}

func (m *model) not() int {
	if m.isWord(0, "not") {
		at := m.at()
		m.pos++
		return m.node(api.ONot, at, "", 0, m.not())
	}
	x := m.sum()
	if op := m.comparison(); op != "" {
		x = m.over(api.OCmp, op, x, m.sum())
	}
	place := m.pos
	if m.isWord(0, "not") || m.comparison() != "" {
		panic(stop{place})
	}
	return x
}

// comparison takes a comparison operator, if one stands there.
func (m *model) comparison() string {
	switch {
	case m.isWord(0, "not") && m.isWord(1, "in"):
		m.pos += 2
		return "not in"
	case m.isWord(0, "is") && m.isWord(1, "not"):
		m.pos += 2
		return "is not"
	case m.isWord(0, "in"), m.isWord(0, "is"), m.isSign("==", "!=", "<", "<=", ">", ">="):
		return m.text()
	}
	return ""
}

func (m *model) sum() int {
	x := m.term()
	for m.isSign("+", "-") {
		op := m.text()
		x = m.over(api.OBin, op, x, m.term())
	}
	return x
}

func (m *model) term() int {
	x := m.factor()
	for m.isSign("*", "//", "%") {
		op := m.text()
		x = m.over(api.OBin, op, x, m.factor())
	}
	return x
}

func (m *model) factor() int {
	if m.isSign("-") {
		at := m.at()
		m.pos++
		return m.node(api.ONeg, at, "", 0, m.factor())
	}
	x := m.postfix()
	if m.isSign("**") {
		m.pos++
		x = m.over(api.OBin, "**", x, m.factor())
	}
	return x
}

func (m *model) postfix() int {
	x := m.atom()
	for {
		switch {
		case m.isSign("."):
			m.pos++
			name, _ := m.name()
			x = m.over(api.OAttr, name, x)
		case m.isSign("("):
			m.pos++
			kids, _ := m.exprs(")")
			x = m.over(api.OCall, "", append([]int{x}, kids...)...)
		case m.isSign("["):
			m.pos++
			x = m.brackets(x)
		default:
			return x
		}
	}
}

func (m *model) brackets(x int) int {
	var from, to int
	if m.isSign(":") {
		from = m.node(api.ONone, m.at(), "", 0)
	} else {
		from = m.expr()
	}
	if m.isSign("]") {
		m.pos++
		return m.over(api.OIndex, "", x, from)
	}
	m.sign(":")
	if m.isSign("]") {
		to = m.node(api.ONone, m.at(), "", 0)
	} else {
		to = m.expr()
	}
	m.sign("]")
	return m.over(api.OSlice, "", x, from, to)
}

// exprs are all up to the closing bracket, and how many commas stand there.
func (m *model) exprs(closer string) (kids []int, commas int) {
	for !m.isSign(closer) {
		kids = append(kids, m.expr())
		if m.isSign(closer) {
			break
		}
		m.sign(",")
		commas++
	}
	m.pos++
	return kids, commas
}

func (m *model) atom() int {
	if m.pos == len(m.l) {
		m.wrong()
	}
	tok := m.l[m.pos]
	switch {
	case tok.Kind == api.TokInt:
		m.pos++
		return m.node(api.OInt, tok.At, "", tok.N)
	case tok.Kind == api.TokStr:
		m.pos++
		return m.node(api.OStr, tok.At, tok.Text, 0)
	case tok.Kind == api.TokName:
		return m.wordAtom(tok)
	case tok.Kind == api.TokOp:
		return m.bracketAtom(tok)
	}
	m.wrong()
	return 0
}

func (m *model) wordAtom(tok api.Tok) int {
	ops := map[string]int{"None": api.ONone, "True": api.OTrue, "False": api.OFalse}
	if op, ok := ops[tok.Text]; ok {
		m.pos++
		return m.node(op, tok.At, "", 0)
	}
	name, at := m.name()
	return m.node(api.OName, at, name, 0)
}

func (m *model) bracketAtom(tok api.Tok) int {
	m.pos++
	switch tok.Text {
	case "(":
		kids, commas := m.exprs(")")
		if len(kids) == 1 && commas == 0 {
			return kids[0]
		}
		return m.node(api.OTuple, tok.At, "", 0, kids...)
	case "[":
		kids, _ := m.exprs("]")
		return m.node(api.OList, tok.At, "", 0, kids...)
	case "{":
		return m.dict(tok.At)
	}
	m.pos--
	m.wrong()
	return 0
}

func (m *model) dict(at int) int {
	var kids []int
	for !m.isSign("}") {
		kids = append(kids, m.expr())
		m.sign(":")
		kids = append(kids, m.expr())
		if m.isSign("}") {
			break
		}
		m.sign(",")
	}
	m.pos++
	return m.node(api.ODict, at, "", 0, kids...)
}
