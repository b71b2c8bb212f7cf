package parse_test

import (
	"slices"
	"strconv"
	"strings"
	"testing"

	"krait/api"
	"krait/parse"
	"krait/scan"
	"krait/tree"
)

func word(s string) api.Tok { return api.Tok{Kind: api.TokName, Text: s} }

func sign(s string) api.Tok { return api.Tok{Kind: api.TokOp, Text: s} }

// of is a token of that kind, without a text.
func of(kind int) api.Tok { return api.Tok{Kind: kind} }

// row is the row of tokens that a text says by words, each at ten times its place: line, in:, out and end are tokens of these kinds; all else is as scan has it.
func row(t *testing.T, s string) []api.Tok {
	t.Helper()
	kinds := map[string]int{"line": api.TokLine, "in:": api.TokIn, "out": api.TokOut, "end": api.TokEnd}
	var all []api.Tok
	for _, x := range strings.Fields(s) {
		if kind, ok := kinds[x]; ok {
			all = append(all, of(kind))
			continue
		}
		l, place, e := scan.Line(x, 0)
		if e != api.OK {
			t.Fatalf("%q: %d at %d", x, e, place)
		}
		all = append(all, l...)
	}
	return placed(all)
}

func placed(l []api.Tok) []api.Tok {
	for i := range l {
		l[i].At = 10 * i
	}
	return l
}

// heads are the names of kinds in what is told, where S says nothing, or not all.
func heads() map[int]string {
	return map[int]string{
		api.ONone: "None", api.OTrue: "True", api.OFalse: "False",
		api.OList: "list", api.OTuple: "tuple", api.ODict: "dict",
		api.ONeg: "neg", api.ONot: "not", api.OAnd: "and", api.OOr: "or", api.OIf: "if-else",
		api.OCall: "call", api.OIndex: "index", api.OSlice: "slice", api.OLambda: "lambda", api.OAttr: ".", api.OParam: "param ",
		api.SModule: "module", api.SBlock: "block", api.SExpr: "expr", api.SAssign: "=", api.SAug: "aug ",
		api.SIf: "if", api.SWhile: "while", api.SFor: "for", api.SBreak: "break", api.SContinue: "continue", api.SPass: "pass",
		api.SDef: "def ", api.SClass: "class ", api.SReturn: "return", api.SRaise: "raise",
		api.STry: "try", api.SHandler: "except ", api.SFinal: "finally",
		api.SGlobal: "global ", api.SNonlocal: "nonlocal ", api.SDel: "del", api.SAssert: "assert", api.SYield: "yield",
	}
}

// told is a node, and what is below it, in brackets, or bare if it is an expression without kids; with places behind an @, if these are asked for.
func told(t api.Tree, node int, places bool) string {
	n := t[node]
	s := strings.TrimSuffix(heads()[n.Op]+n.S, " ")
	if n.Op == api.OInt {
		s = strconv.FormatInt(n.N, 10)
	}
	if places {
		s += "@" + strconv.Itoa(n.At)
	}
	if n.Op < api.OParam && len(n.Kids) == 0 {
		return s
	}
	for _, kid := range n.Kids {
		s += " " + told(t, kid, places)
	}
	return "(" + s + ")"
}

// read is what Tokens tells of tokens, held against what holds of all.
func read(t *testing.T, l []api.Tok) (api.Tree, int, api.Errno) {
	t.Helper()
	before := slices.Clone(l)
	tr, place, e := parse.Tokens(l)
	if !slices.Equal(l, before) {
		t.Errorf("%v: the tokens are others behind it: %v", before, l)
	}
	holdTree(t, l, tr, place, e)
	return tr, place, e
}

func holdTree(t *testing.T, of any, tr api.Tree, place int, e api.Errno) {
	t.Helper()
	if e != api.OK {
		if tr != nil {
			t.Errorf("%v: a tree beside error %d: %v", of, e, tr)
		}
		return
	}
	if place != 0 {
		t.Errorf("%v: place %d without an error", of, place)
	}
	if !inOrder(tr) {
		t.Errorf("%v: the nodes stand in another order: %v", of, tr)
	}
	if !tree.Right(tr) {
		t.Errorf("%v: a tree that is not right: %v", of, tr)
	}
}

// inOrder tells whether each node stands behind its kids, and these, each with what is below it, from the left.
func inOrder(t api.Tree) bool {
	next := 0
	var look func(node int) bool
	look = func(node int) bool {
		for _, kid := range t[node].Kids {
			if !look(kid) {
				return false
			}
		}
		next++
		return node == next-1
	}
	return len(t) > 0 && look(len(t)-1) && next == len(t)
}

// expect: the source's statements must be told so.
func expect(t *testing.T, s, want string) {
	t.Helper()
	tr, place, e := parse.Module(s)
	holdTree(t, s, tr, place, e)
	if e != api.OK {
		t.Errorf("%q: error %d at %d", s, e, place)
		return
	}
	if got := statements(tr, strings.Contains(want, "@")); got != want {
		t.Errorf("%q: %s, want %s", s, got, want)
	}
}

// statements are those of a module, told with blanks between.
func statements(t api.Tree, places bool) string {
	var all []string
	for _, kid := range t[len(t)-1].Kids {
		all = append(all, told(t, kid, places))
	}
	return strings.Join(all, " ")
}

// refuse: the source must be wrong where a $ stands in it, which is no part of it.
func refuse(t *testing.T, s string, want api.Errno) {
	t.Helper()
	ahead, behind, ok := strings.Cut(s, "$")
	if !ok {
		t.Fatalf("%q: no place", s)
	}
	tr, place, e := parse.Module(ahead + behind)
	holdTree(t, s, tr, place, e)
	if place != len(ahead) || e != want {
		t.Errorf("%q: error %d at %d; want %d at %d", s, e, place, want, len(ahead))
	}
}

// refuseAll: each source must be wrong where a $ stands, by its syntax.
func refuseAll(t *testing.T, sources ...string) {
	t.Helper()
	for _, s := range sources {
		refuse(t, s, api.ErrSyntax)
	}
}

// refuseRow: the tokens must be wrong, at the token with that number.
func refuseRow(t *testing.T, l []api.Tok, number int, want api.Errno) {
	t.Helper()
	if _, place, e := read(t, l); place != 10*number || e != want {
		t.Errorf("%v: error %d at %d; want %d at %d", l, e, place, want, 10*number)
	}
}

// deep is an expression of that Depth.
func deep(depth int) string {
	return strings.Repeat("[", depth-1) + "x" + strings.Repeat("]", depth-1)
}

// equal tells whether two trees are one, in all but whether what is empty is nil.
func equal(a, b api.Tree) bool {
	return slices.EqualFunc(a, b, func(x, y api.Node) bool {
		return x.Op == y.Op && x.At == y.At && x.S == y.S && x.N == y.N && slices.Equal(x.Kids, y.Kids)
	})
}
