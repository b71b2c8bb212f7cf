package scope_test

import (
	"math"
	"slices"
	"testing"

	"krait/api"
	"krait/scope"
)

// bound is how a name must be bound.
type bound struct {
	name    string
	how, at int
}

func wantHow(t *testing.T, l []api.Scope, number int, rows ...bound) {
	t.Helper()
	for _, x := range rows {
		if how, at := scope.How(l, number, x.name); how != x.how || at != x.at {
			t.Errorf("%s in %d is %d, %d, want %d, %d", x.name, number, how, at, x.how, x.at)
		}
	}
}

func TestP7_3NamesOfASource(t *testing.T) {
	l, _, e := scope.Of(parsed(t,
		"def f(a, b, c):", " d = a", " e = b",
		" class A(B):", "  c = c", "  x = y", "  global e", "  e = 1",
		"  def g(self, b):", "   nonlocal d", "   z = lambda: (b, c, d, e, f, z, x)",
		" global h", " h = lambda: h"))
	if e != api.OK || len(l) != 6 {
		t.Fatal(e, shorts(l))
	}
	wantHow(t, l, 0, bound{"f", api.ByGlobal, 0}, bound{"a", api.ByGlobal, 0}, bound{"", api.ByGlobal, 0})
	wantHow(t, l, 1, bound{"a", api.ByLocal, 0}, bound{"b", api.ByLocal, 1}, bound{"c", api.ByCell, 0}, bound{"d", api.ByCell, 1}, bound{"e", api.ByCell, 2}, bound{"A", api.ByLocal, 5}, bound{"B", api.ByGlobal, 0}, bound{"h", api.ByGlobal, 0}, bound{"nowhere", api.ByGlobal, 0})
	wantHow(t, l, 2, bound{"c", api.ByClass, 0}, bound{"x", api.ByClass, 1}, bound{"g", api.ByClass, 2}, bound{"e", api.ByGlobal, 0}, bound{"d", api.ByFree, 0}, bound{"y", api.ByGlobal, 0}, bound{"A", api.ByGlobal, 0})
	wantHow(t, l, 3, bound{"self", api.ByLocal, 0}, bound{"b", api.ByCell, 0}, bound{"z", api.ByCell, 1}, bound{"d", api.ByFree, 2}, bound{"c", api.ByFree, 3}, bound{"e", api.ByFree, 4}, bound{"x", api.ByGlobal, 0})
	wantHow(t, l, 4, bound{"b", api.ByFree, 0}, bound{"c", api.ByFree, 1}, bound{"d", api.ByFree, 2}, bound{"e", api.ByFree, 3}, bound{"z", api.ByFree, 4}, bound{"f", api.ByGlobal, 0}, bound{"x", api.ByGlobal, 0})
	wantHow(t, l, 5, bound{"h", api.ByGlobal, 0}, bound{"a", api.ByGlobal, 0})
}

func TestP7_3NoPlace(t *testing.T) {
	l := []api.Scope{{Kind: api.ScopeFunc, Locals: []string{"a"}}, {Kind: api.ScopeModule}}
	for _, number := range []int{math.MinInt, -2, -1, 2, 3, math.MaxInt} {
		wantHow(t, l, number, bound{"a", 0, 0}, bound{"", 0, 0})
	}
	for _, number := range []int{-1, 0, 1} {
		wantHow(t, nil, number, bound{"a", 0, 0})
		wantHow(t, []api.Scope{}, number, bound{"a", 0, 0})
	}
}

func TestP7_3OtherKinds(t *testing.T) {
	all := []string{"a"}
	for _, kind := range []int{math.MinInt, -1, 0, 4, 5, math.MaxInt} {
		wantHow(t, []api.Scope{{Kind: kind, Params: all, Locals: all, Cells: all, Free: all, Globals: all}}, 0, bound{"a", 0, 0}, bound{"b", 0, 0})
	}
}

// A name that stands in several rows, as it may not in scopes that are told.
func TestP7_3WhichRowGoesAhead(t *testing.T) {
	x, ax, bax := []string{"x"}, []string{"a", "x"}, []string{"b", "a", "x"}
	for _, row := range []struct {
		s       api.Scope
		how, at int
	}{
		{api.Scope{Kind: api.ScopeModule, Params: x, Locals: x, Cells: x, Free: x, Globals: x}, api.ByGlobal, 0},
		{api.Scope{Kind: api.ScopeFunc, Params: x, Locals: x, Cells: ax, Free: x, Globals: x}, api.ByCell, 1},
		{api.Scope{Kind: api.ScopeFunc, Cells: bax}, api.ByCell, 2},
		{api.Scope{Kind: api.ScopeFunc, Params: x, Locals: ax, Cells: nil, Free: x, Globals: x}, api.ByLocal, 1},
		{api.Scope{Kind: api.ScopeFunc, Params: x, Locals: nil, Cells: nil, Free: x, Globals: ax}, api.ByGlobal, 0},
		{api.Scope{Kind: api.ScopeFunc, Params: x, Cells: []string{"a", "b"}, Free: bax}, api.ByFree, 4},
		{api.Scope{Kind: api.ScopeFunc, Params: x}, api.ByGlobal, 0},
		{api.Scope{Kind: api.ScopeClass, Params: x, Locals: bax, Cells: x, Free: x, Globals: x}, api.ByClass, 2},
		{api.Scope{Kind: api.ScopeClass, Params: x, Cells: ax, Free: x, Globals: ax}, api.ByGlobal, 0},
		{api.Scope{Kind: api.ScopeClass, Params: x, Cells: ax, Free: ax}, api.ByFree, 3},
		{api.Scope{Kind: api.ScopeClass, Params: x, Cells: ax}, api.ByGlobal, 0},
	} {
		// Names of the scope's, and whether it generates, play no part, nor do others beside it.
		row.s.Name, row.s.Node, row.s.Parent, row.s.Gen = "x", 7, 9, true
		l := []api.Scope{{Kind: api.ScopeFunc, Locals: x}, row.s, {Kind: api.ScopeFunc, Cells: x}}
		wantHow(t, l, 1, bound{"x", row.how, row.at})
	}
}

func TestP7_3TheFirstOfSeveral(t *testing.T) {
	row := []string{"a", "x", "a", "x", ""}
	for _, s := range []struct {
		s   api.Scope
		how int
	}{{api.Scope{Kind: api.ScopeFunc, Cells: row}, api.ByCell}, {api.Scope{Kind: api.ScopeFunc, Locals: row}, api.ByLocal}, {api.Scope{Kind: api.ScopeClass, Locals: row}, api.ByClass}, {api.Scope{Kind: api.ScopeFunc, Free: row}, api.ByFree}, {api.Scope{Kind: api.ScopeClass, Free: row}, api.ByFree}} {
		wantHow(t, []api.Scope{s.s}, 0, bound{"a", s.how, 0}, bound{"x", s.how, 1}, bound{"", s.how, 4}, bound{"X", api.ByGlobal, 0}, bound{"x ", api.ByGlobal, 0})
	}
}

// Rows of up to two of three names, each against the chapter's words.
func TestP7_3EachSmallScope(t *testing.T) {
	names := []string{"a", "b", ""}
	rows := [][]string{nil}
	for _, x := range names {
		rows = append(rows, []string{x})
		for _, y := range names {
			rows = append(rows, []string{x, y})
		}
	}
	for kind := range 5 {
		for _, locals := range rows {
			for _, cells := range rows {
				for _, free := range rows {
					for _, globals := range rows {
						l := []api.Scope{{Kind: kind, Locals: locals, Cells: cells, Free: free, Globals: globals}}
						for _, name := range names {
							how, at := modelHow(l, 0, name)
							wantHow(t, l, 0, bound{name, how, at})
						}
					}
				}
			}
		}
	}
}

func TestP7_4Of(t *testing.T) {
	l := parsed(t, "def f(a=lambda: 0):", " class A:", "  pass", "lambda: 1", "x = 2")
	scopes, _, _ := scope.Of(l)
	made := makers(l)
	if len(made) != 5 || len(scopes) != 5 {
		t.Fatal(made, shorts(scopes))
	}
	for node := -2; node < len(l)+2; node++ {
		if got, want := scope.At(scopes, node), slices.Index(made, node); got != want {
			t.Errorf("%d is made a scope at %d, want %d", node, got, want)
		}
	}
}

func TestP7_4AnyScopes(t *testing.T) {
	l := []api.Scope{{Node: 7}, {Node: -3, Kind: 9}, {Node: 7, Kind: api.ScopeFunc}, {Node: math.MaxInt}, {}, {Node: -3}, {Node: math.MinInt}, {}}
	for _, x := range [][2]int{{7, 0}, {-3, 1}, {math.MaxInt, 3}, {0, 4}, {math.MinInt, 6}, {1, -1}, {-1, -1}, {6, -1}, {8, -1}} {
		if got := scope.At(l, x[0]); got != x[1] {
			t.Errorf("%d is at %d, want %d", x[0], got, x[1])
		}
	}
	for _, node := range []int{math.MinInt, -1, 0, 1, math.MaxInt} {
		if scope.At(nil, node) != -1 || scope.At([]api.Scope{}, node) != -1 {
			t.Error("of no scopes none is at any node")
		}
	}
}

func TestR3ScopesStayAsTheyAre(t *testing.T) {
	l, _, _ := scope.Of(parsed(t, "def f(a, b):", " class A:", "  x = a", " lambda: b", " y"))
	was := shorts(l)
	for number := -1; number <= len(l); number++ {
		for _, name := range []string{"a", "b", "x", "y", "A", "f", ""} {
			scope.How(l, number, name)
		}
		scope.At(l, number)
	}
	if !slices.Equal(shorts(l), was) {
		t.Errorf("%q was %q", shorts(l), was)
	}
}
