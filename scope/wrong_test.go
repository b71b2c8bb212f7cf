package scope_test

import (
	"math"
	"strings"
	"testing"

	"krait/api"
	"krait/scope"
	"krait/tree"
)

func TestP7_1Parameters(t *testing.T) {
	twice := api.ErrTwice
	wrong(t, "def f(a, a):\n pass", twice, api.OParam, "a", 1)
	wrong(t, "def f(a, b, c, b, a):\n pass", twice, api.OParam, "b", 1)
	wrong(t, "def f(a, a=1):\n pass", twice, api.OParam, "a", 1)
	wrong(t, "lambda a, b, a: 0", twice, api.OParam, "a", 1)
	wrong(t, "lambda a, a, a: 0", twice, api.OParam, "a", 1)
	wrong(t, "class A:\n def f(a, a):\n  pass", twice, api.OParam, "a", 1)
	// Those of a lambda that is a default are none of the function's.
	fine(t, "def f(a, b=lambda a, b: a):\n pass")
	fine(t, "def f(a=lambda a=lambda a: a: a):\n def a(a):\n  a\nlambda a: lambda a: a")
	wrong(t, "def f(a, b=lambda a: 0, a=2):\n pass", twice, api.OParam, "a", 2)
	// What is wrong in a default stands ahead of the next parameter.
	wrong(t, "def f(a, b=lambda c, c: 0, a=2):\n pass", twice, api.OParam, "c", 1)
	fine(t, "def f(f, a=f, b=f):\n f = a\n for a in b:\n  del b")
}

func TestP7_1DeclarationsOfParameters(t *testing.T) {
	twice := api.ErrTwice
	wrong(t, "def f(a):\n global a", twice, api.SGlobal, "a", 0)
	wrong(t, "def f(a, b):\n global c, b, d", twice, api.SGlobal, "c b d", 0)
	wrong(t, "def f(a):\n if a:\n  while a:\n   global a", twice, api.SGlobal, "a", 0)
	wrong(t, "def f(a=1):\n pass\n global b\n global a\n global a", twice, api.SGlobal, "a", 0)
	wrong(t, "def f(a):\n def g(a):\n  nonlocal a", twice, api.SNonlocal, "a", 0)
	// It is told ahead of a name without an owner, in whatever order.
	wrong(t, "def f(a):\n nonlocal a", twice, api.SNonlocal, "a", 0)
	wrong(t, "def f(a):\n nonlocal b, a", twice, api.SNonlocal, "b a", 0)
	wrong(t, "def f(a):\n nonlocal a, b", twice, api.SNonlocal, "a b", 0)
	// Parameters of other scopes play no part.
	fine(t, "def f(a):\n def g():\n  global a\n def h():\n  nonlocal a\n class A:\n  global a\n class B:\n  nonlocal a\nglobal a")
	fine(t, "def f(a=lambda b: b):\n global b")
}

func TestP7_1DeclaredTheOtherWay(t *testing.T) {
	twice := api.ErrTwice
	around := "def f(a, b, c):\n def g():\n  "
	wrong(t, around+"global a\n  nonlocal a", twice, api.SNonlocal, "a", 0)
	wrong(t, around+"nonlocal a\n  global a", twice, api.SGlobal, "a", 0)
	wrong(t, around+"nonlocal a, b\n  global c\n  global d, b", twice, api.SGlobal, "d b", 0)
	wrong(t, around+"global a\n  if a:\n   nonlocal b, a\n  else:\n   pass", twice, api.SNonlocal, "b a", 0)
	wrong(t, around+"try:\n   pass\n  except a:\n   global a\n  finally:\n   nonlocal a", twice, api.SNonlocal, "a", 0)
	wrong(t, "def f(a):\n class g:\n  global a\n  nonlocal a", twice, api.SNonlocal, "a", 0)
	wrong(t, "global a\nnonlocal a", twice, api.SNonlocal, "a", 0)
	wrong(t, "global a\nnonlocal b, a", twice, api.SNonlocal, "b a", 0)
	wrong(t, "def f():\n global a\n nonlocal b, a", twice, api.SNonlocal, "b a", 0)
	// It is wrong without an owner too, but that is seen ahead of a global behind it.
	wrong(t, "nonlocal a\nglobal a", api.ErrName, api.SNonlocal, "a", 0)
	fine(t, around+"global a, a\n  global a, d\n  nonlocal b, b\n  nonlocal c, b")
	// Declared in another scope plays no part.
	fine(t, around+"global a\n  def h():\n   nonlocal a\n   class i:\n    global a\n  class j:\n   nonlocal a")
}

func TestP7_1Owners(t *testing.T) {
	name := api.ErrName
	wrong(t, "nonlocal a", name, api.SNonlocal, "a", 0)
	wrong(t, "a = 1\nif a:\n nonlocal a", name, api.SNonlocal, "a", 0)
	wrong(t, "def f():\n nonlocal a", name, api.SNonlocal, "a", 0)
	// What a scope binds itself, a module, or a class, makes no owner.
	wrong(t, "def f():\n a = 1\n nonlocal a", name, api.SNonlocal, "a", 0)
	wrong(t, "a = 1\ndef f():\n nonlocal a\n a = 2", name, api.SNonlocal, "a", 0)
	wrong(t, "class A:\n a = 1\n def f():\n  nonlocal a", name, api.SNonlocal, "a", 0)
	wrong(t, "class A:\n nonlocal A", name, api.SNonlocal, "A", 0)
	wrong(t, "def f():\n nonlocal f", name, api.SNonlocal, "f", 0)
	// What just stands in a function, or is declared there, ahead or behind, is not owned by it.
	wrong(t, "def f():\n a\n def g():\n  nonlocal a", name, api.SNonlocal, "a", 0)
	wrong(t, "def f():\n global a\n a = 1\n def g():\n  nonlocal a", name, api.SNonlocal, "a", 0)
	wrong(t, "def f():\n a = 1\n def g():\n  nonlocal a\n global a", name, api.SNonlocal, "a", 0)
	wrong(t, "def f(a):\n def g():\n  nonlocal a\n global a", name, api.SNonlocal, "a", 0)
	wrong(t, "def f(a):\n def g():\n  nonlocal b\n  b = 1\n  def h():\n   nonlocal a", name, api.SNonlocal, "b", 0)
	// What a scope within, or beside, owns.
	wrong(t, "def f():\n nonlocal a\n def g(a):\n  pass", name, api.SNonlocal, "a", 0)
	wrong(t, "def f(a):\n pass\ndef g():\n nonlocal a", name, api.SNonlocal, "a", 0)
	// One of several names.
	wrong(t, "def f(a, b):\n def g():\n  nonlocal a, b\n  nonlocal a, c, b", name, api.SNonlocal, "a c b", 0)
	// Names that a default, or a base, binds are none of the scope's.
	wrong(t, "def f():\n def g(a=lambda b: b):\n  def h():\n   nonlocal b", name, api.SNonlocal, "b", 0)
	fine(t, "def f():\n def g():\n  nonlocal a\n a = 1")
	fine(t, "def f():\n def g():\n  nonlocal a, b, c, d, e, g, h\n for a in 1:\n  (b, x) = 1\n c += 1\n del d\n try:\n  pass\n except 1 as e:\n  pass\n class h:\n  pass")
	fine(t, "def f(a):\n class A:\n  a = 1\n  def g():\n   def h():\n    nonlocal a\n    a = 1")
	fine(t, "def f(a):\n def g():\n  nonlocal a\n  a = 1\n  def h():\n   nonlocal a\n   a = 1")
}

func TestP7_1ReturnsAndYields(t *testing.T) {
	for _, x := range []struct {
		text string
		op   int
	}{{"return", api.SReturn}, {"return 1", api.SReturn}, {"yield 1", api.SYield}} {
		out := func(source string) { wrong(t, strings.ReplaceAll(source, "@", x.text), api.ErrOutside, x.op, "", 0) }
		out("@")
		out("if a:\n while b:\n  for c in d:\n   @")
		out("try:\n pass\nfinally:\n @")
		out("class A:\n @")
		out("def f():\n class A:\n  @")
		out("def f():\n class A:\n  if a:\n   @")
		out("def f():\n pass\n@")
		out("lambda: 0\n@")
		in := func(source string) { fine(t, strings.ReplaceAll(source, "@", x.text)) }
		in("def f():\n @")
		in("class A:\n def f():\n  while a:\n   try:\n    @\n   except:\n    @\n   finally:\n    @")
		in("def f():\n def g():\n  @\n class A:\n  pass\n @")
		wrong(t, "def f():\n "+x.text+"\nclass A:\n "+x.text, api.ErrOutside, x.op, "", 1)
	}
}

func TestP7_1BreaksAndContinues(t *testing.T) {
	for _, x := range []struct {
		text string
		op   int
	}{{"break", api.SBreak}, {"continue", api.SContinue}} {
		out := func(source string) { wrong(t, strings.ReplaceAll(source, "@", x.text), api.ErrOutside, x.op, "", 0) }
		out("@")
		out("if a:\n @")
		out("while a:\n pass\n@")
		out("for a in b:\n pass\n@")
		out("def f():\n @")
		out("class A:\n @")
		out("while a:\n def f():\n  @")
		out("for a in b:\n class A:\n  if a:\n   @")
		out("for a in b:\n def f():\n  class A:\n   @")
		in := func(source string) { fine(t, strings.ReplaceAll(source, "@", x.text)) }
		in("while a:\n @")
		in("for a in b:\n @")
		in("while a:\n if b:\n  @\n else:\n  @\n @")
		in("for a in b:\n try:\n  @\n except a:\n  @\n except:\n  @\n finally:\n  @")
		in("def f():\n while a:\n  @")
		in("class A:\n for a in b:\n  @")
		in("while a:\n def f():\n  while b:\n   @\n class A:\n  for c in d:\n   @\n @")
		in("while a:\n while b:\n  @\n @")
		wrong(t, "while a:\n "+x.text+"\nif a:\n "+x.text, api.ErrOutside, x.op, "", 1)
	}
}

func TestP7_1TheFirstNode(t *testing.T) {
	rows := []struct {
		source, s string
		e         api.Errno
		op        int
	}{
		{"break", "", api.ErrOutside, api.SBreak},
		{"return", "", api.ErrOutside, api.SReturn},
		{"yield 1", "", api.ErrOutside, api.SYield},
		{"nonlocal z", "z", api.ErrName, api.SNonlocal},
		{"def f(w, w):\n pass", "w", api.ErrTwice, api.OParam},
		{"def f(v):\n global v", "v", api.ErrTwice, api.SGlobal},
		{"global y\nnonlocal y", "y", api.ErrTwice, api.SNonlocal},
	}
	for _, x := range rows {
		ahead := 0
		if x.op == api.OParam {
			ahead = 1
		}
		wrong(t, x.source, x.e, x.op, x.s, ahead)
		for _, y := range rows {
			wrong(t, "a = lambda b: b\n"+x.source+"\n"+y.source, x.e, x.op, x.s, ahead)
			wrong(t, "class A:\n "+strings.ReplaceAll(x.source, "\n", "\n ")+"\n"+y.source, x.e, x.op, x.s, ahead)
		}
	}
	// A parameter goes ahead of all that is wrong in its function, a name of a function ahead of its parameters.
	wrong(t, "def f(a, a):\n break", api.ErrTwice, api.OParam, "a", 1)
	wrong(t, "break\ndef f(a, a):\n pass", api.ErrOutside, api.SBreak, "", 0)
	wrong(t, "if lambda a, a: 0:\n break", api.ErrTwice, api.OParam, "a", 1)
	wrong(t, "if 1:\n break\nelif lambda a, a: 0:\n pass", api.ErrOutside, api.SBreak, "", 0)
}

func TestP7_1ReturnsAheadOfWhatTheyReturn(t *testing.T) {
	wrong(t, "return lambda a, a: 0", api.ErrOutside, api.SReturn, "", 0)
	wrong(t, "yield lambda a, a: 0", api.ErrOutside, api.SYield, "", 0)
	wrong(t, "def f():\n return lambda a, a: 0", api.ErrTwice, api.OParam, "a", 1)
}

// notRight are trees each of which lacks something.
func notRight(t *testing.T) map[string]api.Tree {
	right := parsed(t, "def f(a, a):", " break")
	change := func(i int, n api.Node) api.Tree {
		l := copied(right)
		l[i] = n
		return l
	}
	deep := parsed(t, "pass")[:1]
	for range api.MaxNest + 1 {
		deep = append(deep, api.Node{Op: api.SBlock, Kids: []int{len(deep) - 1}}, api.Node{Op: api.SDef, S: "f", Kids: []int{len(deep)}})
	}
	deep = append(deep, api.Node{Op: api.SModule, Kids: []int{len(deep) - 1}})
	return map[string]api.Tree{
		"nil":                    nil,
		"no nodes":               {},
		"a name alone":           {{Op: api.OName, S: "a"}},
		"a function alone":       right[:len(right)-1],
		"a kind that is none":    change(2, api.Node{Op: 0}),
		"a kind below 0":         change(2, api.Node{Op: math.MinInt}),
		"a statement of no name": change(2, api.Node{Op: api.SGlobal}),
		"names with two blanks":  change(2, api.Node{Op: api.SNonlocal, S: "a  b"}),
		"no name":                change(0, api.Node{Op: api.OParam, S: "lambda"}),
		"a kid below 0":          change(3, api.Node{Op: api.SBlock, Kids: []int{-1}}),
		"a kid that is itself":   change(3, api.Node{Op: api.SBlock, Kids: []int{3}}),
		"a kid behind":           change(3, api.Node{Op: api.SBlock, Kids: []int{math.MaxInt}}),
		"a kid twice":            change(3, api.Node{Op: api.SBlock, Kids: []int{2, 2}}),
		"no kid":                 change(3, api.Node{Op: api.SBlock}),
		"a node that is no kid":  change(4, api.Node{Op: api.SDef, S: "f", Kids: []int{1, 3}}),
		"two modules":            append(copied(right), api.Node{Op: api.SModule, Kids: []int{len(right) - 1}}),
		"deep blocks":            deep,
		"no target":              {{Op: api.SAssign}, {Op: api.SModule, Kids: []int{0}}},
		"a target that is none":  {{Op: api.OTuple}, {Op: api.ONone}, {Op: api.SAssign, Kids: []int{0, 1}}, {Op: api.SModule, Kids: []int{2}}},
		"a class of nothing":     {{Op: api.SClass, S: "A"}, {Op: api.SModule, Kids: []int{0}}},
		"a lambda of nothing":    {{Op: api.OLambda}, {Op: api.SExpr, Kids: []int{0}}, {Op: api.SModule, Kids: []int{1}}},
	}
}

func TestP7_1TreesThatAreNotRight(t *testing.T) {
	for what, l := range notRight(t) {
		if tree.Right(l) {
			t.Fatalf("%s is right", what)
		}
		was := copied(l)
		got, node, e := scope.Of(l)
		if got != nil || node != 0 || e != api.ErrArg {
			t.Errorf("%s: %d at %d, %v", what, e, node, got)
		}
		if !equal(l, was) {
			t.Errorf("%s: %v was %v", what, l, was)
		}
	}
}
