package unparse_test

import (
	"slices"
	"strings"
	"testing"

	"krait/api"
	"krait/parse"
	"krait/tree"
	"krait/unparse"
)

// spec is a node with its kids themselves, as a test writes it down.
type spec struct {
	op   int
	s    string
	n    int64
	kids []spec
}

func node(op int, s string, kids ...spec) spec { return spec{op: op, s: s, kids: kids} }

// lay is the tree of a spec, with kids ahead of what has them; each node's At is its number.
func lay(root spec) api.Tree {
	var t api.Tree
	var put func(x spec) int
	put = func(x spec) int {
		var kids []int
		for _, k := range x.kids {
			kids = append(kids, put(k))
		}
		t = append(t, api.Node{Op: x.op, At: len(t), S: x.s, N: x.n, Kids: kids})
		return len(t) - 1
	}
	put(root)
	return t
}

// layWide is the same tree in another order: level by level, the lowest one first, each from the right.
func layWide(root spec) api.Tree {
	all := []spec{root}
	var kids [][]int
	for i := 0; i < len(all); i++ {
		var row []int
		for _, k := range all[i].kids {
			row = append(row, len(all))
			all = append(all, k)
		}
		kids = append(kids, row)
	}
	t := make(api.Tree, len(all))
	for i, x := range all {
		for j := range kids[i] {
			kids[i][j] = len(all) - 1 - kids[i][j]
		}
		t[len(all)-1-i] = api.Node{Op: x.op, At: -7 * i, S: x.s, N: x.n, Kids: kids[i]}
	}
	return t
}

func module(statements ...spec) spec { return node(api.SModule, "", statements...) }

func block(statements ...spec) spec { return node(api.SBlock, "", statements...) }

func name(s string) spec { return node(api.OName, s) }

func integer(n int64) spec { return spec{op: api.OInt, n: n} }

func none() spec { return node(api.ONone, "") }

func pass() spec { return node(api.SPass, "") }

func plain(e spec) spec { return node(api.SExpr, "", e) }

func param(s string, kids ...spec) spec { return node(api.OParam, s, kids...) }

func bin(operator string, a, b spec) spec { return node(api.OBin, operator, a, b) }

func cmp(operator string, a, b spec) spec { return node(api.OCmp, operator, a, b) }

func neg(a spec) spec { return node(api.ONeg, "", a) }

func lambda(kids ...spec) spec { return node(api.OLambda, "", kids...) }

func conditional(value, test, other spec) spec { return node(api.OIf, "", value, test, other) }

// a to d are names of one letter.
func abcd() (a, b, c, d spec) { return name("a"), name("b"), name("c"), name("d") }

// copied is a tree of its own.
func copied(t api.Tree) api.Tree {
	t = slices.Clone(t)
	for i := range t {
		t[i].Kids = slices.Clone(t[i].Kids)
	}
	return t
}

// equal tells whether two trees are one, in all but whether what is empty is nil.
func equal(a, b api.Tree) bool {
	return slices.EqualFunc(a, b, func(x, y api.Node) bool {
		return x.Op == y.Op && x.At == y.At && x.S == y.S && x.N == y.N && slices.Equal(x.Kids, y.Kids)
	})
}

// printed is a right tree's text, which must be parsed to that tree, and be told of it again.
func printed(t *testing.T, l api.Tree) string {
	t.Helper()
	if !tree.Right(l) {
		t.Fatalf("not right: %v", l)
	}
	was := copied(l)
	got := unparse.Module(l)
	if !equal(l, was) {
		t.Errorf("%v was %v", l, was)
	}
	again, place, e := parse.Module(got)
	if e != api.OK || !tree.Same(l, again) {
		t.Errorf("%s\nis parsed as another tree: %v, %d at %d; it was %v", got, again, e, place, l)
	} else if text := unparse.Module(again); text != got {
		t.Errorf("%s\nis printed as %s", got, text)
	}
	return got
}

// expect: the statement's lines must be these, in whatever order its nodes stand.
func expect(t *testing.T, x spec, lines ...string) {
	t.Helper()
	want := strings.Join(lines, "\n") + "\n"
	for _, l := range []api.Tree{lay(module(x)), layWide(module(x))} {
		if got := printed(t, l); got != want {
			t.Errorf("%sis not\n%s", got, want)
		}
	}
}

// expectExpr: the expression's text must be that, alone and as a statement.
func expectExpr(t *testing.T, x spec, want string) {
	t.Helper()
	expect(t, plain(x), want)
	l := lay(module(plain(x)))
	if got := unparse.Expr(l, len(l)-3); got != want {
		t.Errorf("%s, want %s", got, want)
	}
}
