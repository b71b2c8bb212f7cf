package parse_test

import (
	"slices"
	"strings"

	"krait/api"
	"krait/express"
	"krait/scan"
	"krait/tree"
)

// rule is a row of the chapter's table: what a statement's parts are, by words. What is spelled small is there itself (but line, in:, out and end, which are tokens of these kinds); what is spelled large is told by part.
type rule struct {
	op    int
	parts string
}

func rules() []rule {
	return []rule{
		{api.SPass, "pass line"}, {api.SBreak, "break line"}, {api.SContinue, "continue line"},
		{api.SReturn, "return line"}, {api.SReturn, "return EXPR line"}, {api.SRaise, "raise line"}, {api.SRaise, "raise EXPR line"},
		{api.SGlobal, "global NAMES line"}, {api.SNonlocal, "nonlocal NAMES line"},
		{api.SDel, "del EXPR NARROW line"}, {api.SAssert, "assert EXPR line"}, {api.SAssert, "assert EXPR , EXPR line"}, {api.SYield, "yield EXPR line"},
		{api.SIf, "if EXPR BLOCK"}, {api.SIf, "if EXPR BLOCK else BLOCK"}, {api.SIf, "if EXPR BLOCK ELIF"},
		{api.SWhile, "while EXPR BLOCK"}, {api.SFor, "for FIRST WIDE in EXPR BLOCK"},
		{api.SDef, "def NAME ( ) BLOCK"}, {api.SDef, "def NAME ( PARAMS ) BLOCK"},
		{api.SClass, "class NAME BLOCK"}, {api.SClass, "class NAME ( ) BLOCK"}, {api.SClass, "class NAME ( EXPRS ) BLOCK"}, {api.SClass, "class NAME ( EXPRS , ) BLOCK"},
		{api.STry, "try BLOCK FINAL"}, {api.STry, "try BLOCK HANDLERS"}, {api.STry, "try BLOCK HANDLERS FINAL"},
		{api.SExpr, "EXPR line"}, {api.SAssign, "EXPR = WIDEAHEAD EXPR line"}, {api.SAug, "EXPR AUG EXPR line"},
	}
}

// way is one of the ways in which tokens may be read up to a place: with the nodes that are whole, and those that wait for what has them.
type way struct {
	pos   int
	nodes api.Tree
	kids  []int
	s     string
}

// model goes all ways that the table has at once, and knows how far the one came that came furthest.
type model struct {
	l    []api.Tok
	far  int
	at   int
	e    api.Errno
	deep int
}

// modelled is what the chapter says of tokens.
func modelled(l []api.Tok) (api.Tree, int, api.Errno) {
	m := &model{l: l, far: -1}
	for _, w := range m.statements(way{}) {
		if !m.is(w.pos, "end") {
			m.wrong(w.pos, api.ErrSyntax)
			continue
		}
		if w.pos+1 == len(l) {
			return append(w.nodes, api.Node{Op: api.SModule, Kids: w.kids}), 0, api.OK
		}
		m.wrong(w.pos+1, api.ErrSyntax)
	}
	return nil, m.at, m.e
}

func (m *model) place(pos int) int {
	if len(m.l) == 0 {
		return 0
	}
	return m.l[min(pos, len(m.l)-1)].At
}

func (m *model) wrong(pos int, e api.Errno) { m.wrongAt(pos, m.place(pos), e) }

// wrongAt keeps what is wrong, if it is seen further on than all else; the errors' numbers say which goes ahead at one token.
func (m *model) wrongAt(pos, at int, e api.Errno) {
	if pos > m.far || pos == m.far && e > m.e {
		m.far, m.at, m.e = pos, at, e
	}
}

func (m *model) is(pos int, s string) bool {
	kinds := map[string]int{"line": api.TokLine, "in:": api.TokIn, "out": api.TokOut, "end": api.TokEnd}
	if pos >= len(m.l) {
		return false
	}
	tok := m.l[pos]
	if kind, ok := kinds[s]; ok {
		return tok.Kind == kind
	}
	if s[0] >= 'a' && s[0] <= 'z' {
		return tok.Kind == api.TokName && tok.Text == s
	}
	return tok.Kind == api.TokOp && tok.Text == s
}

// statements are all ways through any many of them; the way that ends soonest comes last.
func (m *model) statements(w way) []way {
	var all []way
	for _, one := range m.statement(w) {
		all = append(all, m.statements(one)...)
	}
	return append(all, w)
}

func (m *model) statement(w way) []way {
	var all []way
	for _, r := range rules() {
		all = append(all, m.whole(r.op, w, r.parts)...)
	}
	return all
}

// whole are the ways through the parts of a node, with the node.
func (m *model) whole(op int, w way, parts string) []way {
	all := []way{{pos: w.pos, nodes: w.nodes}}
	for _, part := range strings.Fields(parts) {
		var next []way
		for _, one := range all {
			next = append(next, m.part(part, one)...)
		}
		all = next
	}
	for i, one := range all {
		nodes := append(one.nodes[:len(one.nodes):len(one.nodes)], api.Node{Op: op, At: m.place(w.pos), S: one.s, Kids: one.kids})
		all[i] = way{pos: one.pos, nodes: nodes, kids: append(w.kids[:len(w.kids):len(w.kids)], len(nodes)-1), s: w.s}
	}
	return all
}

func (m *model) part(part string, w way) []way {
	switch part {
	case "EXPR":
		return m.expr(w, len(m.l))
	case "FIRST":
		return m.first(w)
	case "NARROW", "WIDE":
		return m.target(w, part == "WIDE", w.pos)
	case "WIDEAHEAD":
		return m.target(w, true, w.pos-1)
	case "AUG":
		return m.aug(w)
	case "NAME":
		return m.name(w)
	case "NAMES":
		return m.several(w, "NAME")
	case "EXPRS":
		return m.several(w, "EXPR")
	case "PARAMS":
		return m.several(w, "PARAM")
	case "PARAM":
		return m.param(w)
	case "BLOCK":
		return m.block(w)
	case "ELIF":
		return m.elif(w)
	case "ELSEIF":
		return slices.Concat(m.whole(api.SIf, w, "elif EXPR BLOCK"), m.whole(api.SIf, w, "elif EXPR BLOCK else BLOCK"), m.whole(api.SIf, w, "elif EXPR BLOCK ELIF"))
	case "STATEMENTS":
		var all []way
		for _, one := range m.statement(w) {
			all = append(all, m.statements(one)...)
		}
		return all
	case "HANDLERS":
		return m.handlers(w)
	case "FINAL":
		return m.whole(api.SFinal, w, "finally BLOCK")
	}
	if !m.is(w.pos, part) {
		m.wrong(w.pos, api.ErrSyntax)
		return nil
	}
	w.pos++
	return []way{w}
}

func (m *model) expr(w way, end int) []way {
	var b tree.Builder
	node, used, e := express.Parse(&b, m.l[w.pos:end])
	if e != api.OK {
		m.wrong(w.pos+used, e)
		return nil
	}
	shift := len(w.nodes)
	nodes := append(api.Tree{}, w.nodes...)
	for _, n := range b.Tree() {
		kids := append([]int{}, n.Kids...)
		for i := range kids {
			kids[i] += shift
		}
		n.Kids = kids
		nodes = append(nodes, n)
	}
	return []way{{pos: w.pos + used, nodes: nodes, kids: append(w.kids[:len(w.kids):len(w.kids)], shift+node), s: w.s}}
}

// first is the first expr of a for, by the words of the table.
func (m *model) first(w way) []way {
	end, open := w.pos, 0
	for ; end < len(m.l); end++ {
		switch {
		case m.is(end, "("), m.is(end, "["), m.is(end, "{"):
			open++
		case m.is(end, ")"), m.is(end, "]"), m.is(end, "}"):
			open = max(open-1, 0)
		}
		if open == 0 && m.is(end, "in") || m.is(end, "line") || m.is(end, "in:") || m.is(end, "out") || m.is(end, "end") {
			break
		}
	}
	all := m.expr(w, end)
	if len(all) > 0 && all[0].pos < end {
		m.wrong(all[0].pos, api.ErrSyntax)
		return nil
	}
	return all
}

// target holds the last kid to be one; what is wrong is seen at a token.
func (m *model) target(w way, wide bool, seen int) []way {
	is := func(n api.Node) bool { return n.Op == api.OName || n.Op == api.OAttr || n.Op == api.OIndex }
	n := w.nodes[w.kids[len(w.kids)-1]]
	ok := is(n)
	if wide && n.Op == api.OTuple {
		ok = len(n.Kids) > 0
		for _, kid := range n.Kids {
			ok = ok && is(w.nodes[kid])
		}
	}
	if !ok {
		m.wrongAt(seen, n.At, api.ErrTarget)
		return nil
	}
	return []way{w}
}

func (m *model) aug(w way) []way {
	for _, op := range []string{"+", "-", "*", "//", "%", "**"} {
		if m.is(w.pos, op+"=") {
			all := m.target(w, false, w.pos)
			for i := range all {
				all[i].pos++
				all[i].s = op
			}
			return all
		}
	}
	m.wrong(w.pos, api.ErrSyntax)
	return nil
}

func (m *model) name(w way) []way {
	if w.pos >= len(m.l) || m.l[w.pos].Kind != api.TokName || !scan.Name(m.l[w.pos].Text) {
		m.wrong(w.pos, api.ErrSyntax)
		return nil
	}
	if w.s != "" {
		w.s += " "
	}
	w.s += m.l[w.pos].Text
	w.pos++
	return []way{w}
}

// several are all ways through one and more of a part, with commas between.
func (m *model) several(w way, part string) []way {
	all := m.part(part, w)
	for i := 0; i < len(all); i++ {
		for _, one := range m.part(",", all[i]) {
			all = append(all, m.part(part, one)...)
		}
	}
	return all
}

// param is one with an expr, or, behind none with an expr, one without.
func (m *model) param(w way) []way {
	if m.is(w.pos+1, "=") {
		return m.whole(api.OParam, w, "NAME = EXPR")
	}
	if len(w.kids) > 0 && len(w.nodes[w.kids[len(w.kids)-1]].Kids) > 0 {
		m.wrong(w.pos, api.ErrSyntax)
		return nil
	}
	return m.whole(api.OParam, w, "NAME")
}

func (m *model) block(w way) []way {
	var all []way
	for _, ahead := range m.part(":", w) {
		for _, in := range m.part("line", ahead) {
			if m.is(in.pos, "in:") && m.deep == api.MaxNest {
				m.wrong(in.pos, api.ErrDepth)
				continue
			}
			for _, inner := range m.part("in:", in) {
				m.deep++
				all = append(all, m.whole(api.SBlock, inner, "STATEMENTS out")...)
				m.deep--
			}
		}
	}
	return all
}

// elif is a block of nothing but an if.
func (m *model) elif(w way) []way {
	if m.is(w.pos, "elif") && m.deep == api.MaxNest {
		m.wrong(w.pos, api.ErrDepth)
		return nil
	}
	m.deep++
	all := m.whole(api.SBlock, w, "ELSEIF")
	m.deep--
	return all
}

// handlers are one at least, of which only the last one has no expr.
func (m *model) handlers(w way) []way {
	all := m.whole(api.SHandler, w, "except BLOCK")
	for _, parts := range []string{"except EXPR BLOCK", "except EXPR as NAME BLOCK"} {
		for _, one := range m.whole(api.SHandler, w, parts) {
			all = append(append(all, one), m.handlers(one)...)
		}
	}
	return all
}
