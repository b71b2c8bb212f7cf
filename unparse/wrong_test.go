package unparse_test

import (
	"math"
	"strings"
	"testing"

	"krait/api"
	"krait/tree"
	"krait/unparse"
)

// notRight are trees each of which lacks something.
func notRight() map[string]api.Tree {
	deep := name("a")
	for range api.MaxNest {
		deep = neg(deep)
	}
	right := lay(module(plain(name("a"))))
	change := func(i int, n api.Node) api.Tree {
		l := copied(right)
		l[i] = n
		return l
	}
	return map[string]api.Tree{
		"nil": nil, "no nodes": {},
		"an expression alone":     {{Op: api.OName, S: "a"}},
		"a statement alone":       right[:2],
		"a block":                 lay(block(pass())),
		"a module in a module":    lay(module(module())),
		"a kind that is none":     change(0, api.Node{Op: 0}),
		"another kind":            change(0, api.Node{Op: 23}),
		"a kind below 0":          change(0, api.Node{Op: -1}),
		"a great kind":            change(0, api.Node{Op: math.MaxInt}),
		"a name of a keyword":     change(0, api.Node{Op: api.OName, S: "if"}),
		"no name":                 change(0, api.Node{Op: api.OName}),
		"an int below 0":          change(0, api.Node{Op: api.OInt, N: -1}),
		"an int with a text":      change(0, api.Node{Op: api.OInt, S: "1"}),
		"a None with a number":    change(0, api.Node{Op: api.ONone, N: 1}),
		"a long str":              change(0, api.Node{Op: api.OStr, S: strings.Repeat("a", api.MaxText+1)}),
		"a parameter":             change(0, api.Node{Op: api.OParam, S: "a"}),
		"no operator":             lay(module(plain(bin("/", name("a"), name("b"))))),
		"no comparison":           lay(module(plain(cmp("not", name("a"), name("b"))))),
		"one operand":             lay(module(plain(node(api.OBin, "+", name("a"))))),
		"an odd dict":             lay(module(plain(node(api.ODict, "", name("a"))))),
		"a call of nothing":       lay(module(plain(node(api.OCall, "")))),
		"a lambda of nothing":     lay(module(plain(lambda()))),
		"a parameter behind":      lay(module(plain(lambda(param("a", none()), param("b"), none())))),
		"a deep expression":       lay(module(plain(deep))),
		"a kid that is none":      change(1, api.Node{Op: api.SExpr, Kids: []int{-1}}),
		"a kid that is itself":    change(1, api.Node{Op: api.SExpr, Kids: []int{1}}),
		"a kid behind":            change(1, api.Node{Op: api.SExpr, Kids: []int{2}}),
		"a kid twice":             change(1, api.Node{Op: api.SAssert, Kids: []int{0, 0}}),
		"a node that is no kid":   change(1, api.Node{Op: api.SPass}),
		"a block of nothing":      lay(module(ifs(name("a"), block()))),
		"an if without a block":   lay(module(ifs(name("a")))),
		"a target that is none":   lay(module(node(api.SAssign, "", none(), none()))),
		"a try alone":             lay(module(node(api.STry, "", block(pass())))),
		"a handler alone":         lay(module(node(api.SHandler, "", block(pass())))),
		"names with two blanks":   lay(module(node(api.SGlobal, "a  b"))),
		"names of nothing":        lay(module(node(api.SNonlocal, ""))),
		"nothing behind a module": append(copied(right), api.Node{Op: api.OName, S: "a"}),
	}
}

func TestP6_4TreesThatAreNotRight(t *testing.T) {
	for what, l := range notRight() {
		if tree.Right(l) {
			t.Fatalf("%s is right", what)
		}
		was := copied(l)
		if got := unparse.Module(l); got != "" {
			t.Errorf("%s: %q", what, got)
		}
		for n := -1; n <= len(l); n++ {
			if got := unparse.Expr(l, n); got != "" {
				t.Errorf("%s: %d is %q", what, n, got)
			}
		}
		if !equal(l, was) {
			t.Errorf("%s: %v was %v", what, l, was)
		}
	}
}

func TestP6_4ExprsOfEachNode(t *testing.T) {
	a, b, c, _ := abcd()
	l := lay(module(
		node(api.SAssign, "", a, bin("*", bin("+", a, integer(2)), c)),
		node(api.SDef, "f", param("x"), param("y", neg(b)), block(node(api.STry, "", block(pass()), node(api.SHandler, "e", c, block(node(api.SReturn, "", lambda(param("z"), none())))), node(api.SFinal, "", block(node(api.SGlobal, "g"))))))))
	want := []string{"a", "a", "2", "a + 2", "c", "(a + 2) * c", "", "", "b", "-b", "", "", "", "c", "", "None", "lambda z: None", "", "", "", "", "", "", "", "", "", ""}
	if !tree.Right(l) || len(l) != len(want) {
		t.Fatal(len(l), len(want))
	}
	for i, s := range want {
		if got := unparse.Expr(l, i); got != s {
			t.Errorf("%d: %q, want %q", i, got, s)
		}
	}
	for _, n := range []int{math.MinInt, -2, -1, len(l), len(l) + 1, math.MaxInt} {
		if got := unparse.Expr(l, n); got != "" {
			t.Errorf("%d: %q", n, got)
		}
	}
}
