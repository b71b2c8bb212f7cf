package scope_test

import (
	"slices"
	"strconv"
	"strings"
	"testing"

	"krait/api"
	"krait/parse"
	"krait/scope"
	"krait/tree"
)

// parsed is the tree of a source of these lines.
func parsed(t *testing.T, lines ...string) api.Tree {
	t.Helper()
	l, place, e := parse.Module(strings.Join(lines, "\n") + "\n")
	if e != api.OK {
		t.Fatalf("%q: %v at %d", lines, e, place)
	}
	return l
}

// moved is the same tree with its nodes in another order, level by level, the lowest one first, each from the right; and the new number of each node.
func moved(l api.Tree) (api.Tree, []int) {
	row := []int{len(l) - 1}
	for i := 0; i < len(row); i++ {
		row = append(row, l[row[i]].Kids...)
	}
	slices.Reverse(row)
	numbers := make([]int, len(l))
	for to, from := range row {
		numbers[from] = to
	}
	var m api.Tree
	for _, from := range row {
		n := l[from]
		n.At, n.Kids = -7*n.At, slices.Clone(n.Kids)
		for i, kid := range n.Kids {
			n.Kids[i] = numbers[kid]
		}
		m = append(m, n)
	}
	return m, numbers
}

// copied is a tree of its own.
func copied(l api.Tree) api.Tree {
	l = slices.Clone(l)
	for i := range l {
		l[i].Kids = slices.Clone(l[i].Kids)
	}
	return l
}

// equal tells whether two trees are one, in all but whether what is empty is nil.
func equal(a, b api.Tree) bool {
	return slices.EqualFunc(a, b, func(x, y api.Node) bool {
		return x.Op == y.Op && x.At == y.At && x.S == y.S && x.N == y.N && slices.Equal(x.Kids, y.Kids)
	})
}

// short is a scope but for its node: its kind and name, the scope around it, its rows, and whether it is a generator.
func short(s api.Scope) string {
	kinds := map[int]string{api.ScopeModule: "module", api.ScopeFunc: "func", api.ScopeClass: "class"}
	text := kinds[s.Kind]
	if s.Name != "" {
		text += " " + s.Name
	}
	if s.Parent != -1 {
		text += " in " + strconv.Itoa(s.Parent)
	}
	for _, row := range []struct {
		name string
		l    []string
	}{{"params", s.Params}, {"locals", s.Locals}, {"cells", s.Cells}, {"free", s.Free}, {"globals", s.Globals}} {
		if len(row.l) > 0 {
			text += "; " + row.name + " " + strings.Join(row.l, " ")
		}
	}
	if s.Gen {
		text += "; gen"
	}
	return text
}

func shorts(l []api.Scope) []string {
	var all []string
	for _, s := range l {
		all = append(all, short(s))
	}
	return all
}

func sameScope(a, b api.Scope) bool { return a.Node == b.Node && short(a) == short(b) }

// makers are the nodes that make scopes, in order.
func makers(l api.Tree) []int {
	var all []int
	for n := range tree.All(l, len(l)-1) {
		switch l[n].Op {
		case api.SModule, api.SDef, api.OLambda, api.SClass:
			all = append(all, n)
		}
	}
	return all
}

// hold holds what is told of a tree against the model, in two orders of its nodes; it is what was told of the first one.
func hold(t *testing.T, l api.Tree) ([]api.Scope, int, api.Errno) {
	t.Helper()
	if !tree.Right(l) {
		t.Fatalf("not right: %v", l)
	}
	other, _ := moved(l)
	for _, x := range []api.Tree{l, other} {
		was := copied(x)
		got, node, e := scope.Of(x)
		if !equal(x, was) {
			t.Errorf("%v was %v", x, was)
		}
		want, wantNode, wantError := modelOf(x)
		if e != wantError || node != wantNode || !slices.EqualFunc(got, want, sameScope) {
			t.Errorf("%v\nis %d at %d, %q\nwant %d at %d, %q", x, e, node, shorts(got), wantError, wantNode, shorts(want))
		}
		if e != api.OK && got != nil {
			t.Errorf("beside an error: %v", got)
		}
	}
	return scope.Of(l)
}

// expect: the scopes of the source must be these, in whatever order the tree's nodes stand.
func expect(t *testing.T, source string, want ...string) {
	t.Helper()
	l := parsed(t, source)
	hold(t, l)
	other, _ := moved(l)
	for _, x := range []api.Tree{l, other} {
		got, node, e := scope.Of(x)
		if e != api.OK || node != 0 || !slices.Equal(shorts(got), want) {
			t.Errorf("%s\nis %v at %d\n%s\nwant\n%s", source, e, node, strings.Join(shorts(got), "\n"), strings.Join(want, "\n"))
			continue
		}
		for i, n := range makers(x) {
			if got[i].Node != n {
				t.Errorf("%s\nthe node of %d is %d, want %d", source, i, got[i].Node, n)
			}
		}
	}
}

// wrong: that must be wrong with the source, at the first node, in order, of the kind and with the S, of which there are so many ahead.
func wrong(t *testing.T, source string, want api.Errno, op int, s string, ahead int) {
	t.Helper()
	l := parsed(t, source)
	hold(t, l)
	place := -1
	for n := range tree.All(l, len(l)-1) {
		if l[n].Op == op && l[n].S == s {
			place = n
			ahead--
		}
		if ahead < 0 {
			break
		}
	}
	other, numbers := moved(l)
	got, node, e := scope.Of(l)
	if e != want || node != place || got != nil {
		t.Errorf("%s\nis %d at %d, %v\nwant %d at %d", source, e, node, got, want, place)
	}
	if _, node, e := scope.Of(other); e != want || node != numbers[place] {
		t.Errorf("%s\nin another order is %d at %d, want %d at %d", source, e, node, want, numbers[place])
	}
}

// fine: nothing may be wrong with the source.
func fine(t *testing.T, source string) {
	t.Helper()
	if l, node, e := hold(t, parsed(t, source)); e != api.OK || node != 0 || len(l) == 0 {
		t.Errorf("%s\nis %d at %d", source, e, node)
	}
}
