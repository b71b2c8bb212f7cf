package express_test

import (
	"slices"
	"strconv"
	"strings"
	"testing"

	"krait/api"
	"krait/express"
	"krait/scan"
	"krait/tree"
)

// tokens are those of a line; all that scan has no token for stands there by what other calls.
func tokens(t *testing.T, s string) []api.Tok {
	t.Helper()
	l, place, e := scan.Line(s, 0)
	if e != api.OK {
		t.Fatalf("%q: %d at %d", s, e, place)
	}
	return l
}

func word(s string) api.Tok { return api.Tok{Kind: api.TokName, Text: s} }

func sign(s string) api.Tok { return api.Tok{Kind: api.TokOp, Text: s} }

func integer(n int64) api.Tok { return api.Tok{Kind: api.TokInt, N: n} }

func str(s string) api.Tok { return api.Tok{Kind: api.TokStr, Text: s} }

// row is a row of tokens, each at ten times its place.
func row(l ...api.Tok) []api.Tok {
	for i := range l {
		l[i].At = 10 * i
	}
	return l
}

// heads are the names of kinds in what is told; of others S, or N, says all.
func heads() map[int]string {
	return map[int]string{
		api.ONone: "None", api.OTrue: "True", api.OFalse: "False",
		api.OList: "list", api.OTuple: "tuple", api.ODict: "dict",
		api.ONeg: "neg", api.ONot: "not", api.OAnd: "and", api.OOr: "or", api.OIf: "if",
		api.OCall: "call", api.OIndex: "index", api.OSlice: "slice", api.OLambda: "lambda",
	}
}

// head is a node without its kids.
func head(n api.Node) string {
	switch n.Op {
	case api.OInt:
		return strconv.FormatInt(n.N, 10)
	case api.OStr:
		return scan.Quote(n.S)
	case api.OName, api.OBin, api.OCmp:
		return n.S
	case api.OAttr:
		return "." + n.S
	case api.OParam:
		return "=" + n.S
	}
	return heads()[n.Op]
}

// told is a node, and what is below it, in brackets; with places behind an @, if these are asked for.
func told(t api.Tree, node int, places bool) string {
	n := t[node]
	s := head(n)
	if places {
		s += "@" + strconv.Itoa(n.At)
	}
	if len(n.Kids) == 0 && n.Op < api.OList || n.Op == api.OName {
		return s
	}
	for _, kid := range n.Kids {
		s += " " + told(t, kid, places)
	}
	return "(" + s + ")"
}

// read is what Parse tells of tokens, with its nodes, in the order in which they were added.
func read(t *testing.T, l []api.Tok) (nodes api.Tree, used int, e api.Errno) {
	t.Helper()
	var b tree.Builder
	before := slices.Clone(l)
	node, used, e := express.Parse(&b, l)
	if !slices.Equal(l, before) {
		t.Errorf("%v: the tokens are others behind it: %v", before, l)
	}
	if e != api.OK {
		if node != -1 {
			t.Errorf("%v: node %d beside error %d", l, node, e)
		}
		return nil, used, e
	}
	nodes = b.Tree()
	if node != len(nodes)-1 || b.Add(api.SPass, 0, "", 0) != len(nodes) {
		t.Errorf("%v: node %d of %v", l, node, nodes)
	}
	return nodes, used, e
}

// expect holds the text of what is read of the whole line against what it must be.
func expect(t *testing.T, s, want string) {
	t.Helper()
	l := tokens(t, s)
	expectRow(t, l, len(l), want)
}

// expectRow: so many of the tokens must be read.
func expectRow(t *testing.T, l []api.Tok, many int, want string) {
	t.Helper()
	nodes, used, e := read(t, l)
	if e != api.OK || used != many {
		t.Errorf("%v: %d tokens, error %d", l, used, e)
		return
	}
	if got := told(nodes, len(nodes)-1, strings.Contains(want, "@")); got != want {
		t.Errorf("%v: %s, want %s", l, got, want)
	}
}

// refuse: the line must be wrong at the token with that number.
func refuse(t *testing.T, s string, place int, want api.Errno) {
	t.Helper()
	refuseRow(t, tokens(t, s), place, want)
}

func refuseRow(t *testing.T, l []api.Tok, place int, want api.Errno) {
	t.Helper()
	if _, at, e := read(t, l); at != place || e != want {
		t.Errorf("%v: error %d at %d; want %d at %d", l, e, at, want, place)
	}
}

// refuseCaret: the line must be wrong where a $ stands in it, which is none of its tokens.
func refuseCaret(t *testing.T, s string, want api.Errno) {
	t.Helper()
	ahead, behind, ok := strings.Cut(s, "$")
	if !ok {
		t.Fatalf("%q: no place", s)
	}
	refuse(t, ahead+behind, len(tokens(t, ahead)), want)
}

// deep is an expression of that Depth.
func deep(depth int) string {
	return strings.Repeat("[", depth-1) + "x" + strings.Repeat("]", depth-1)
}

// equal tells whether two rows of nodes are one, in all but whether what is empty is nil.
func equal(a, b api.Tree) bool {
	return slices.EqualFunc(a, b, func(x, y api.Node) bool {
		return x.Op == y.Op && x.At == y.At && x.S == y.S && x.N == y.N && slices.Equal(x.Kids, y.Kids)
	})
}
