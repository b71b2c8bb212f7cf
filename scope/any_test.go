package scope_test

import (
	"math/rand"
	"slices"
	"strconv"
	"strings"
	"testing"

	"krait/api"
	"krait/scope"
	"krait/tree"
)

// bodies are what is done with x in one scope.
func bodies() []string {
	return []string{"pass", "x", "x = 1", "global x", "nonlocal x", "x;x = 1", "global x;x = 1", "x += 1;nonlocal x", "y;x;del y", "lambda: x", "lambda x: x", "lambda x=x: x"}
}

// within is a scope of that kind, with such a body, and what is within it; a blank deeper than what it lies in.
func within(kind, body, inner string) string {
	lines := append(strings.Split(body, ";"), strings.Split(inner, "\n")...)
	return strings.Replace(kind, "@", strings.Join(lines, "\n "), 1)
}

func TestP7_2EachSmallNest(t *testing.T) {
	kinds := []string{"def f():\n @", "def f(x):\n @", "class A:\n @", "def f(x=x):\n @", "def y(y, x):\n @"}
	right, count := 0, 0
	for _, outer := range kinds {
		for _, a := range bodies() {
			for _, inner := range kinds {
				for _, b := range bodies() {
					for _, last := range []string{"def g():\n x", "class B:\n x = 1\n lambda: x", "def g():\n nonlocal x\n lambda: x", "lambda: lambda: (y, x)"} {
						source := within(outer, a, within(inner, b, last))
						_, _, e := hold(t, parsed(t, source))
						count++
						if e == api.OK {
							right++
						}
					}
				}
			}
		}
	}
	if right < count/4 || right == count {
		t.Errorf("of %d only %d are right", count, right)
	}
}

// Each two statements that say something of a name, in each kind of scope.
func TestP7_1EachTwoStatements(t *testing.T) {
	rows := []string{"a", "a = 1", "global a", "nonlocal a", "global b, a", "nonlocal b, a", "global a, b", "nonlocal a, b", "def a():\n pass", "class a:\n pass", "return", "yield a", "break", "continue", "while a:\n break", "for a in b:\n continue", "def b(a, a):\n pass", "lambda a: a", "del b", "try:\n pass\nexcept b as a:\n nonlocal b"}
	for _, around := range []string{"@", "def f():\n @", "class A:\n @", "def f(a):\n @", "def f(a):\n def g():\n  @", "def f(a, b):\n class A:\n  @", "def f(a):\n def g(b):\n  @", "while a:\n @", "def f():\n b = 1\n def g():\n  if a:\n   @"} {
		margin := strings.Repeat(" ", strings.LastIndex(around, "@")-strings.LastIndex("\n"+around, "\n"))
		for _, x := range rows {
			for _, y := range rows {
				text := strings.ReplaceAll(x+"\n"+y, "\n", "\n"+margin)
				hold(t, parsed(t, strings.Replace(around, "@", text, 1)))
			}
		}
	}
}

// grower makes sources in which few names stand in many ways.
type grower struct {
	*rand.Rand
	lines []string
}

func (g *grower) of(all string) string {
	row := strings.Split(all, "|")
	return row[g.Intn(len(row))]
}

func (g *grower) name() string { return g.of("a|a|b|b|c|d|e") }

func (g *grower) params(depth int) string {
	row := []string{"a", "b", "c", "d"}
	g.Shuffle(len(row), func(i, j int) { row[i], row[j] = row[j], row[i] })
	if g.Intn(12) == 0 {
		row[1] = row[0]
	}
	row = row[:g.Intn(4)]
	from := g.Intn(len(row) + 1)
	for i := range row {
		if i >= from {
			row[i] += "=" + g.expr(depth-1)
		}
	}
	return strings.Join(row, ", ")
}

func (g *grower) expr(depth int) string {
	if depth <= 0 || g.Intn(3) == 0 {
		return g.name()
	}
	e := func() string { return g.expr(depth - 1) }
	switch g.Intn(8) {
	case 0:
		return "(lambda " + g.params(depth) + ": " + e() + ")"
	case 1:
		return "(" + e() + ", " + e() + ")"
	case 2:
		return g.name() + "(" + e() + ")"
	case 3:
		return g.name() + "[" + e() + "]"
	case 4:
		return g.name() + "." + g.name()
	case 5:
		return "(" + e() + " if " + e() + " else " + e() + ")"
	default:
		return "(lambda: " + e() + ")"
	}
}

func (g *grower) target() string {
	return g.of("a|b|c|d|a.b|c[a]|d[(lambda: b)]")
}

func (g *grower) wide() string {
	if g.Intn(3) > 0 {
		return g.target()
	}
	return "(" + g.target() + ", " + g.target() + ")"
}

// place is where a statement stands.
type place struct {
	margin         string
	blocks         int
	function, loop bool
}

func (p place) deeper() place {
	p.margin += " "
	p.blocks--
	return p
}

func (g *grower) say(p place, text string) { g.lines = append(g.lines, p.margin+text) }

func (g *grower) block(p place) {
	for range 1 + g.Intn(4) {
		g.statement(p)
	}
}

func (g *grower) statement(p place) {
	if p.blocks <= 0 || g.Intn(5) < 3 {
		g.simple(p)
		return
	}
	in := p.deeper()
	switch g.Intn(10) {
	case 0, 1, 2, 3:
		g.say(p, "def "+g.name()+"("+g.params(2)+"):")
		in.function, in.loop = true, false
	case 4, 5:
		g.say(p, "class "+g.name()+"("+g.expr(1)+"):")
		in.function, in.loop = false, false
	case 6:
		g.say(p, "while "+g.expr(1)+":")
		in.loop = true
	case 7:
		g.say(p, "for "+g.wide()+" in "+g.expr(1)+":")
		in.loop = true
	case 8:
		g.say(p, "if "+g.expr(1)+":")
		g.block(in)
		g.say(p, "else:")
	case 9:
		g.say(p, "try:")
		g.block(in)
		g.say(p, "except "+g.expr(1)+g.of("| as a| as b")+":")
		g.block(in)
		g.say(p, "finally:")
	}
	g.block(in)
}

func (g *grower) simple(p place) {
	careless := g.Intn(20) == 0
	switch g.Intn(10) {
	case 0, 1:
		g.say(p, g.expr(3))
	case 2, 3:
		g.say(p, g.wide()+" = "+g.expr(2))
	case 4:
		g.say(p, g.target()+" += "+g.expr(1))
	case 5:
		g.say(p, "del "+g.target())
	case 6:
		g.say(p, "global "+g.of("a|b|c|d|a, b|d, c"))
	case 7:
		g.say(p, "nonlocal "+g.of("a|b|c|d|a, b|d, c"))
	case 8:
		if p.function || careless {
			g.say(p, g.of("return|return a|yield b"))
		}
	case 9:
		if p.loop || careless {
			g.say(p, g.of("break|continue"))
		}
	}
	// A block is never empty.
	g.say(p, "pass")
}

// mended is the tree with a node that is wrong made harmless.
func mended(l api.Tree, node int) api.Tree {
	l = copied(l)
	n := &l[node]
	if n.Op == api.OParam {
		n.S = "p" + strconv.Itoa(node)
		return l
	}
	if n.Op == api.SReturn || n.Op == api.SYield {
		if len(n.Kids) > 0 {
			*n = api.Node{Op: api.SExpr, Kids: n.Kids}
			return l
		}
	}
	*n = api.Node{Op: api.SPass}
	return l
}

// Each error of grown modules is told, one behind the other, and then the scopes.
func TestP7_2GrownModules(t *testing.T) {
	errors, longest := map[api.Errno]int{}, 0
	for seed := range 400 {
		g := &grower{Rand: rand.New(rand.NewSource(int64(seed)))}
		g.block(place{blocks: 2 + g.Intn(4)})
		l := parsed(t, g.lines...)
		for {
			scopes, node, e := hold(t, l)
			errors[e]++
			if e == api.OK {
				longest = max(longest, len(scopes))
				holdNames(t, l, scopes)
				break
			}
			l = mended(l, node)
		}
	}
	for _, e := range []api.Errno{api.ErrTwice, api.ErrName, api.ErrOutside} {
		if errors[e] < 20 {
			t.Errorf("only %d of %v", errors[e], e)
		}
	}
	if longest < 20 {
		t.Errorf("at most %d scopes", longest)
	}
}

// holdNames holds how each name that stands in a scope is bound there to what the words say of it, whatever stands in the rows.
func holdNames(t *testing.T, l api.Tree, scopes []api.Scope) {
	t.Helper()
	m := newModel(l)
	for number, s := range scopes {
		for _, name := range []string{"a", "b", "c", "d", "e", "f"} {
			how, at := scope.How(scopes, number, name)
			if h, a := modelHow(scopes, number, name); how != h || at != a {
				t.Errorf("%s in %d is %d, %d, want %d, %d", name, number, how, at, h, a)
			}
			owns, cell := m.owns(s.Node, name), slices.Contains(s.Cells, name)
			switch {
			case s.Kind == api.ScopeClass && owns:
				same(t, how, api.ByClass, s.Locals[at], name)
			case owns && cell:
				same(t, how, api.ByCell, s.Cells[at], name)
			case owns:
				same(t, how, api.ByLocal, s.Locals[at], name)
			case m.free(s.Node, name):
				same(t, how, api.ByFree, s.Free[at-len(s.Cells)], name)
			case m.some(s.Node, name, func(int) bool { return true }):
				same(t, how, api.ByGlobal, name, name)
			}
		}
	}
}

func same(t *testing.T, how, want int, told, name string) {
	t.Helper()
	if how != want || told != name {
		t.Errorf("%s is bound by %d as %s, want %d", name, how, told, want)
	}
}

func TestR4TheSameAnswers(t *testing.T) {
	l := parsed(t, "def f(a, b, c, d, e):", " def g():", "  nonlocal d, b", "  return (e, a, c)", " return lambda: (x, y, z, c, d)", "(p, q, r) = s")
	first, _, _ := scope.Of(l)
	for range 50 {
		if again, _, _ := scope.Of(l); !slices.EqualFunc(first, again, sameScope) {
			t.Fatalf("%q is not %q", shorts(again), shorts(first))
		}
	}
}

// What is told is the caller's: no row reaches into another one, or into what is told next.
func TestR3RowsAreApart(t *testing.T) {
	l := parsed(t, "def f(a, b, c):", " d = 1", " def g(h):", "  return (a, b, c, d, h, x)", " class A:", "  e = a", "  lambda: (b, y)", "z")
	was := copied(l)
	first, _, _ := scope.Of(l)
	want := shorts(first)
	for i := range first {
		for _, row := range [][]string{first[i].Params, first[i].Locals, first[i].Cells, first[i].Free, first[i].Globals} {
			_ = append(row, "grown", "grown")
		}
	}
	if !slices.Equal(shorts(first), want) {
		t.Errorf("%q was %q", shorts(first), want)
	}
	rows := func(s *api.Scope) []*[]string {
		return []*[]string{&s.Params, &s.Locals, &s.Cells, &s.Free, &s.Globals}
	}
	for i := range first {
		for j, row := range rows(&first[i]) {
			for k := range *row {
				(*row)[k] = strconv.Itoa(i) + " " + strconv.Itoa(j)
			}
		}
	}
	for i := range first {
		for j, row := range rows(&first[i]) {
			for _, name := range *row {
				if name != strconv.Itoa(i)+" "+strconv.Itoa(j) {
					t.Errorf("%d, %d: %s", i, j, name)
				}
			}
		}
	}
	if again, _, _ := scope.Of(l); !slices.Equal(shorts(again), want) || !equal(l, was) {
		t.Errorf("%q was %q", shorts(again), want)
	}
}

// deepest is a source with as many blocks within one another as there may be, of that kind, and a text in the innermost one.
func deepest(kind func(i int) string, text string) string {
	var s strings.Builder
	for i := range api.MaxNest {
		s.WriteString(strings.Repeat(" ", i) + kind(i) + ":\n")
	}
	return s.String() + strings.Repeat(" ", api.MaxNest) + text
}

func TestP7_2DeepNests(t *testing.T) {
	def := func(i int) string { return "def f" + strconv.Itoa(i) + "(a" + strconv.Itoa(i) + ")" }
	class := func(i int) string {
		if i == 0 {
			return def(i)
		}
		return "class A" + strconv.Itoa(i)
	}
	lambdas := strings.Repeat("lambda: ", api.MaxNest-3)
	for _, x := range []struct {
		source, free string
		scopes       int
	}{
		{deepest(def, lambdas+"a0 + b"), "a0", api.MaxNest + api.MaxNest - 2},
		{deepest(class, lambdas+"a0 + b"), "a0", api.MaxNest + api.MaxNest - 2},
		{deepest(def, "nonlocal a0, a38"), "a0 a38", api.MaxNest + 1},
		{deepest(class, "nonlocal a0"), "a0", api.MaxNest + 1},
	} {
		l, _, e := hold(t, parsed(t, x.source))
		if e != api.OK || len(l) != x.scopes {
			t.Fatalf("%d, %d scopes", e, len(l))
		}
		for i, s := range l {
			if s.Parent != i-1 {
				t.Errorf("%d lies in %d", i, s.Parent)
			}
		}
		if got := strings.Join(l[len(l)-1].Free, " "); got != x.free {
			t.Errorf("free is %s", got)
		}
		if !slices.Equal(l[1].Cells, []string{"a0"}) || !slices.Contains(l[2].Free, "a0") {
			t.Errorf("the outermost are %s, %s", short(l[1]), short(l[2]))
		}
	}
}

func TestP1LongTrees(t *testing.T) {
	const many = 1 << 16
	var row []string
	for i := range many {
		row = append(row, "n"+strconv.Itoa(i))
	}
	all := strings.Join(row, ", ")
	l, _, e := scope.Of(parsed(t, "def f("+all+"):", " def g():", "  nonlocal "+all, " def h():", "  global "+all, "("+all+") = 1"))
	if e != api.OK || len(l) != 4 {
		t.Fatal(e, len(l))
	}
	for i, got := range [][]string{l[1].Params, l[1].Locals[:many], l[1].Cells, l[2].Free, l[3].Globals, l[0].Globals[1:]} {
		if !slices.Equal(got, row) {
			t.Errorf("%d: %d names", i, len(got))
		}
	}
	lines := []string{"def f(a):"}
	for range many {
		lines = append(lines, " lambda: a")
	}
	l, _, e = scope.Of(parsed(t, append(lines, " a = b")...))
	if e != api.OK || len(l) != many+2 || short(l[many]) != "func lambda in 1; free a" {
		t.Error(e, len(l))
	}
	last := parsed(t, append(lines, " a", "break")...)
	if _, node, e := scope.Of(last); e != api.ErrOutside || node != len(last)-2 {
		t.Errorf("%d at %d", e, node)
	}
}

// What may be printed and parsed has the same scopes: places of tokens play no part.
func TestP7_2PlacesPlayNoPart(t *testing.T) {
	l := parsed(t, "def f(a):", " def g():", "  return a + b", " return g")
	want, _, _ := scope.Of(l)
	for i := range l {
		l[i].At = 1000 - 7*i
	}
	if got, _, _ := scope.Of(l); !slices.EqualFunc(got, want, sameScope) || !tree.Right(l) {
		t.Errorf("%q, want %q", shorts(got), shorts(want))
	}
}
