package express_test

import (
	"testing"

	"krait/api"
)

func TestP4_3Places(t *testing.T) {
	expect(t, "a + b * c - d", "(-@0 (+@0 a@0 (*@4 b@4 c@8)) d@12)")
	expect(t, "  a  **  b", "(**@2 a@2 b@9)")
	expect(t, "- a", "(neg@0 a@2)")
	expect(t, " not  a", "(not@1 a@6)")
	expect(t, "a not in b", "(not in@0 a@0 b@9)")
	expect(t, "-a < b", "(<@0 (neg@0 a@1) b@5)")
	expect(t, "a and b and c", "(and@0 (and@0 a@0 b@6) c@12)")
	expect(t, "a or b or c", "(or@0 (or@0 a@0 b@5) c@10)")
	expect(t, "a if b else c", "(if@0 a@0 b@5 c@12)")
	expect(t, " lambda a, b=1: c", "(lambda@1 (=a@8) (=b@11 1@13) c@16)")
	expect(t, "a.b.c", "(.c@0 (.b@0 a@0))")
	expect(t, "a (b , c)", "(call@0 a@0 b@3 c@7)")
	expect(t, "a [b]", "(index@0 a@0 b@3)")
	expect(t, " a [ b : c ]", "(slice@1 a@1 b@5 c@9)")
	expect(t, "a[ :  b]", "(slice@0 a@0 None@3 b@6)")
	expect(t, "a[b : ]", "(slice@0 a@0 b@2 None@6)")
	expect(t, "a[ : ]", "(slice@0 a@0 None@3 None@5)")
	expect(t, " None", "None@1")
	expect(t, " True", "True@1")
	expect(t, " False", "False@1")
	expect(t, " 12", "12@1")
	expect(t, " 'a'", "'a'@1")
	expect(t, " [ a , b ]", "(list@1 a@3 b@7)")
	expect(t, " { a : b }", "(dict@1 a@3 b@7)")
	expect(t, " ( )", "(tuple@1)")
	expect(t, " ( a , )", "(tuple@1 a@3)")
	expect(t, " ( a , b )", "(tuple@1 a@3 b@7)")
}

func TestP4_3PlacesWithinBrackets(t *testing.T) {
	expect(t, "(a)", "a@1")
	expect(t, "((a))", "a@2")
	expect(t, "(a + b)", "(+@1 a@1 b@5)")
	expect(t, "(a) + b", "(+@1 a@1 b@6)")
	expect(t, "(-a) * b", "(*@1 (neg@1 a@2) b@7)")
	expect(t, "((a) ** b)", "(**@2 a@2 b@8)")
	expect(t, "(a).b", "(.b@1 a@1)")
	expect(t, "(a)()", "(call@1 a@1)")
	expect(t, "(a)[b]", "(index@1 a@1 b@4)")
	expect(t, "((a))[:]", "(slice@2 a@2 None@6 None@7)")
	expect(t, "(a) < b", "(<@1 a@1 b@6)")
	expect(t, "(a) and b", "(and@1 a@1 b@8)")
	expect(t, "(a) or b", "(or@1 a@1 b@7)")
	expect(t, "(a) if b else c", "(if@1 a@1 b@7 c@14)")
	expect(t, "(a, b)[c]", "(index@0 (tuple@0 a@1 b@4) c@7)")
	expect(t, "[a].b", "(.b@0 (list@0 a@1))")
	expect(t, "(lambda: a)()", "(call@1 (lambda@1 a@9))")
	expect(t, "-(a)", "(neg@0 a@2)")
	expect(t, "not (a)", "(not@0 a@5)")
}

func TestP4_3PlacesAreTheTokensOwn(t *testing.T) {
	a, b := word("a"), word("b")
	a.At, b.At = -7, 1<<62
	plus := sign("+")
	plus.At = -9
	expectRow(t, []api.Tok{a, plus, b}, 3, "(+@-7 a@-7 b@4611686018427387904)")
	expectRow(t, []api.Tok{b, plus, a, plus, a}, 5, "(+@4611686018427387904 (+@4611686018427387904 b@4611686018427387904 a@-7) a@-7)")
}

func TestP4_2NodesStandBehindTheirKidsFromTheLeft(t *testing.T) {
	expectNodes(t, "a + b * c",
		api.Node{Op: api.OName, At: 0, S: "a"}, api.Node{Op: api.OName, At: 4, S: "b"}, api.Node{Op: api.OName, At: 8, S: "c"},
		api.Node{Op: api.OBin, At: 4, S: "*", Kids: []int{1, 2}}, api.Node{Op: api.OBin, At: 0, S: "+", Kids: []int{0, 3}})
	expectNodes(t, "a if b else c",
		api.Node{Op: api.OName, At: 0, S: "a"}, api.Node{Op: api.OName, At: 5, S: "b"}, api.Node{Op: api.OName, At: 12, S: "c"},
		api.Node{Op: api.OIf, At: 0, Kids: []int{0, 1, 2}})
	expectNodes(t, "lambda a, b=1: c",
		api.Node{Op: api.OParam, At: 7, S: "a"}, api.Node{Op: api.OInt, At: 12, N: 1}, api.Node{Op: api.OParam, At: 10, S: "b", Kids: []int{1}},
		api.Node{Op: api.OName, At: 15, S: "c"}, api.Node{Op: api.OLambda, At: 0, Kids: []int{0, 2, 3}})
	expectNodes(t, "a[:'b']",
		api.Node{Op: api.OName, At: 0, S: "a"}, api.Node{Op: api.ONone, At: 2}, api.Node{Op: api.OStr, At: 3, S: "b"},
		api.Node{Op: api.OSlice, At: 0, Kids: []int{0, 1, 2}})
	expectNodes(t, "{a: 1}[b](c.d, True is not False)",
		api.Node{Op: api.OName, At: 1, S: "a"}, api.Node{Op: api.OInt, At: 4, N: 1}, api.Node{Op: api.ODict, At: 0, Kids: []int{0, 1}},
		api.Node{Op: api.OName, At: 7, S: "b"}, api.Node{Op: api.OIndex, At: 0, Kids: []int{2, 3}},
		api.Node{Op: api.OName, At: 10, S: "c"}, api.Node{Op: api.OAttr, At: 10, S: "d", Kids: []int{5}},
		api.Node{Op: api.OTrue, At: 15}, api.Node{Op: api.OFalse, At: 27}, api.Node{Op: api.OCmp, At: 15, S: "is not", Kids: []int{7, 8}},
		api.Node{Op: api.OCall, At: 0, Kids: []int{4, 6, 9}})
	expectNodes(t, "not [-a or (b and (),)]",
		api.Node{Op: api.OName, At: 6, S: "a"}, api.Node{Op: api.ONeg, At: 5, Kids: []int{0}},
		api.Node{Op: api.OName, At: 12, S: "b"}, api.Node{Op: api.OTuple, At: 18}, api.Node{Op: api.OAnd, At: 12, Kids: []int{2, 3}},
		api.Node{Op: api.OTuple, At: 11, Kids: []int{4}}, api.Node{Op: api.OOr, At: 5, Kids: []int{1, 5}},
		api.Node{Op: api.OList, At: 4, Kids: []int{6}}, api.Node{Op: api.ONot, At: 0, Kids: []int{7}})
}

func expectNodes(t *testing.T, s string, want ...api.Node) {
	t.Helper()
	if got, _, e := read(t, tokens(t, s)); e != api.OK || !equal(got, want) {
		t.Errorf("%q: %v, error %d; want %v", s, got, e, want)
	}
}
