package scope_test

import "testing"

func TestP7_2Example(t *testing.T) {
	expect(t, "def f(a):\n def g():\n  return a + b\n return g",
		"module; globals f",
		"func f in 0; params a; locals a g; cells a",
		"func g in 1; free a; globals b")
}

func TestP7_2Modules(t *testing.T) {
	for _, x := range [][2]string{
		{"", "module"},
		{"pass", "module"},
		{"x", "module; globals x"},
		{"b = a", "module; globals b a"},
		{"f(x, y)", "module; globals f x y"},
		{"a.b = 'c'\nd[e:g]", "module; globals a d e g"},
		{"(c, b.d, a[e]) = f", "module; globals c b a e f"},
		{"global b, a\na = b\ndel c", "module; globals b a c"},
		{"for x in y:\n z += x", "module; globals x y z"},
		{"try:\n a\nexcept b as c:\n d\nexcept:\n e\nfinally:\n g", "module; globals a c b d e g"},
		{"assert a, b\nraise c\nwhile d:\n break", "module; globals a b c d"},
		{"x\ny\nx = y\ny = x\nx", "module; globals x y"},
	} {
		expect(t, x[0], x[1])
	}
}

// Each kind of statements and expressions in a function: what it binds, and what just stands there.
func TestP7_2WhatBinds(t *testing.T) {
	for _, x := range [][2]string{
		{"a", "globals a"}, {"a = b", "locals a; globals b"}, {"a += b", "locals a; globals b"}, {"del a", "locals a"},
		{"(a, b) = c", "locals a b; globals c"}, {"(a, b.c, d[e]) = (f, g)", "locals a; globals b d e f g"},
		{"a.b = c", "globals a c"}, {"a[b] = c", "globals a b c"}, {"a.b += c", "globals a c"}, {"a[b] += c", "globals a b c"}, {"del a.b", "globals a"}, {"del a[b]", "globals a b"},
		{"a = (b, c)", "locals a; globals b c"}, {"(a, b)", "globals a b"}, {"[a, b]", "globals a b"}, {"(a[(b, c)], d) = e", "locals d; globals a b c e"},
		{"for a in b:\n  c", "locals a; globals b c"}, {"for (a, b) in (c, d):\n  e", "locals a b; globals c d e"}, {"for a.b in c:\n  d", "globals a c d"}, {"for a[b] in c:\n  d", "globals a b c d"}, {"for (a, b[c]) in d:\n  e", "locals a; globals b c d e"},
		{"try:\n  a\n except b as c:\n  d", "locals c; globals a b d"}, {"try:\n  a\n except b:\n  d", "globals a b d"}, {"try:\n  a\n except:\n  d\n finally:\n  e", "globals a d e"},
		{"return a", "globals a"}, {"raise a", "globals a"}, {"assert a, b", "globals a b"}, {"if a:\n  b = c\n else:\n  d", "locals b; globals a c d"}, {"while a:\n  b = c", "locals b; globals a c"},
		{"a if b else c", "globals a b c"}, {"-a ** b", "globals a b"}, {"{a: b}", "globals a b"}, {"a[b:c]", "globals a b c"}, {"a not in b and not c", "globals a b c"},
		{"global a", "globals a"}, {"global b, a\n a = b", "globals b a"}, {"a = b\n global a, c", "globals a b c"}, {"global a\n del a", "globals a"}, {"global a\n global a, b", "globals a b"}, {"global a, a", "globals a"},
		{"yield a", "globals a; gen"}, {"if a:\n  while b:\n   yield 1", "globals a b; gen"}, {"'a'", ""}, {"a.b(1, None, True, False, 'c')", "globals a"}, {"pass", ""},
		{"try:\n  a\n except b as a:\n  c", "locals a; globals b c"}, {"for a in a:\n  a", "locals a"},
	} {
		want := "func h in 0"
		if x[1] != "" {
			want += "; " + x[1]
		}
		expect(t, "def h():\n "+x[0], "module; globals h", want)
	}
}

func TestP7_2FunctionsAndClassesBind(t *testing.T) {
	expect(t, "def f():\n def g(a, b=c):\n  pass\n g", "module; globals f", "func f in 0; locals g; globals c", "func g in 1; params a b; locals a b")
	expect(t, "def f():\n class g(a, b.c):\n  pass\n g", "module; globals f", "func f in 0; locals g; globals a b", "class g in 1")
	expect(t, "def f():\n global g, h\n def g():\n  pass\n class h:\n  pass", "module; globals f", "func f in 0; globals g h", "func g in 1", "class h in 1")
	expect(t, "def f():\n a = 1\n def g():\n  nonlocal a\n  def a():\n   pass", "module; globals f", "func f in 0; locals a g; cells a", "func g in 1; free a", "func a in 2")
	expect(t, "def f():\n a = 1\n def g():\n  nonlocal a\n  class a(a):\n   a", "module; globals f", "func f in 0; locals a g; cells a", "func g in 1; free a", "class a in 2; free a")
}

func TestP7_2Parameters(t *testing.T) {
	expect(t, "def f(c, b, a=b):\n d = a\n b = d", "module; globals f b", "func f in 0; params c b a; locals c b a d")
	expect(t, "lambda c, b, a=b: b", "module; globals b", "func lambda in 0; params c b a; locals c b a")
	// A parameter has its place, whether it is bound anew or does not stand there again.
	expect(t, "def f(a, b):\n z = 1\n b = z\n for a in b:\n  y = 1", "module; globals f", "func f in 0; params a b; locals a b z y")
	expect(t, "lambda: a", "module", "func lambda in 0; globals a")
	expect(t, "def f():\n pass", "module; globals f", "func f in 0")
	expect(t, "def f(a):\n def f(a):\n  def f(a):\n   a", "module; globals f", "func f in 0; params a; locals a f", "func f in 1; params a; locals a f", "func f in 2; params a; locals a")
}

// What parameters have as defaults, bases, and names of functions and classes lie in the scope around.
func TestP7_2WhatLiesAround(t *testing.T) {
	expect(t, "def f(a):\n def g(b=a, c=d):\n  return a\n return g", "module; globals f", "func f in 0; params a; locals a g; cells a; globals d", "func g in 1; params b c; locals b c; free a")
	expect(t, "def f(a, b=a):\n pass", "module; globals f a", "func f in 0; params a b; locals a b")
	expect(t, "def f(x):\n def g(x=x):\n  return x", "module; globals f", "func f in 0; params x; locals x g", "func g in 1; params x; locals x")
	expect(t, "def f(x):\n return lambda x=x: x", "module; globals f", "func f in 0; params x; locals x", "func lambda in 1; params x; locals x")
	expect(t, "def f(x):\n class A(x, A):\n  x", "module; globals f", "func f in 0; params x; locals x A; cells x", "class A in 1; free x")
	expect(t, "def f(f):\n f", "module; globals f", "func f in 0; params f; locals f")
	expect(t, "class A:\n A", "module; globals A", "class A in 0; globals A")
	expect(t, "class A:\n A = 1", "module; globals A", "class A in 0; locals A")
	expect(t, "def f():\n def g(a=lambda x: y, b=lambda: z):\n  x\n y = 1\n z = 2",
		"module; globals f", "func f in 0; locals g y z; cells y z", "func g in 1; params a b; locals a b; globals x", "func lambda in 1; params x; locals x; free y", "func lambda in 1; free z")
	expect(t, "def f(a=lambda b=lambda c=d: e: g):\n pass", "module; globals f d", "func f in 0; params a; locals a", "func lambda in 0; params b; locals b; globals g", "func lambda in 0; params c; locals c; globals e")
	expect(t, "class A(lambda a=b: a):\n b = 1", "module; globals A b", "class A in 0; locals b", "func lambda in 0; params a; locals a")
	expect(t, "def f(y):\n class A(lambda: y):\n  y = 1", "module; globals f", "func f in 0; params y; locals y A; cells y", "class A in 1; locals y", "func lambda in 1; free y")
}

func TestP7_2Lambdas(t *testing.T) {
	expect(t, "def f(a):\n return lambda b: lambda c: (d, c, b, a)",
		"module; globals f", "func f in 0; params a; locals a; cells a", "func lambda in 1; params b; locals b; cells b; free a", "func lambda in 2; params c; locals c; free b a; globals d")
	expect(t, "lambda a: lambda: lambda: a", "module", "func lambda in 0; params a; locals a; cells a", "func lambda in 1; free a", "func lambda in 2; free a")
	expect(t, "class A:\n a = lambda b: lambda: (a, b)", "module; globals A", "class A in 0; locals a", "func lambda in 1; params b; locals b; cells b", "func lambda in 2; free b; globals a")
	expect(t, "(lambda: a)(lambda: b)[lambda: c]", "module", "func lambda in 0; globals a", "func lambda in 0; globals b", "func lambda in 0; globals c")
}

// A scope stands ahead of those within it, and these stand as they are made.
func TestP7_2ScopesInOrder(t *testing.T) {
	expect(t, "def a():\n def b():\n  class c:\n   def d():\n    pass\n def e():\n  pass\nclass g:\n lambda: lambda: 0\n def h():\n  pass\ndef i():\n pass",
		"module; globals a g i", "func a in 0; locals b e", "func b in 1; locals c", "class c in 2; locals d", "func d in 3", "func e in 1", "class g in 0; locals h", "func lambda in 6", "func lambda in 7", "func h in 6", "func i in 0")
	expect(t, "x[lambda: 1] = lambda: 2\ny[lambda: 3] += lambda: 4\nfor z[lambda: 5] in lambda: 6:\n lambda: 7",
		"module; globals x y z", "func lambda in 0", "func lambda in 0", "func lambda in 0", "func lambda in 0", "func lambda in 0", "func lambda in 0", "func lambda in 0")
}

func TestP7_2Cells(t *testing.T) {
	// In the order of Locals, not in that of those who take them.
	expect(t, "def f(a, b, c):\n d = 1\n e = 2\n lambda: e\n lambda: c\n lambda: a", "module; globals f", "func f in 0; params a b c; locals a b c d e; cells a c e", "func lambda in 1; free e", "func lambda in 1; free c", "func lambda in 1; free a")
	// Of the innermost one that owns it.
	expect(t, "def f(a):\n def g(a):\n  def h():\n   return a", "module; globals f", "func f in 0; params a; locals a g", "func g in 1; params a; locals a h; cells a", "func h in 2; free a")
	// Bound behind the function that takes it.
	expect(t, "def f():\n def g():\n  a\n a = 1", "module; globals f", "func f in 0; locals g a; cells a", "func g in 1; free a")
	// A function that takes itself.
	expect(t, "def f():\n def g():\n  g", "module; globals f", "func f in 0; locals g; cells g", "func g in 1; free g")
	// What a function within binds is its own.
	expect(t, "def f(a):\n def g():\n  a = 1", "module; globals f", "func f in 0; params a; locals a g", "func g in 1; locals a")
	// What is declared global there is no one's.
	expect(t, "def f(a):\n def g():\n  global a\n  a = 1\n  def h():\n   a", "module; globals f", "func f in 0; params a; locals a g; cells a", "func g in 1; locals h; free a; globals a", "func h in 2; free a")
	expect(t, "def f():\n global a\n a = 1\n def g():\n  a", "module; globals f", "func f in 0; locals g; globals a", "func g in 1; globals a")
	// What a module, or a class, binds is no function's.
	expect(t, "a = 1\ndef f():\n a\n def g():\n  a", "module; globals a f", "func f in 0; locals g; globals a", "func g in 1; globals a")
	expect(t, "class A:\n a = 1\n def f():\n  a", "module; globals A", "class A in 0; locals a f", "func f in 1; globals a")
}

func TestP7_2Free(t *testing.T) {
	// A name goes through scopes between, in which it does not stand.
	expect(t, "def f(a):\n def g():\n  class h:\n   def i():\n    lambda: a", "module; globals f", "func f in 0; params a; locals a g; cells a", "func g in 1; locals h; free a", "class h in 2; locals i; free a", "func i in 3; free a", "func lambda in 4; free a")
	// Each one to its own owner.
	expect(t, "def f(a, b):\n def g(a, c):\n  def h(d):\n   return (d, c, b, a, e)", "module; globals f", "func f in 0; params a b; locals a b g; cells b", "func g in 1; params a c; locals a c h; cells a c; free b", "func h in 2; params d; locals d; free c b a; globals e")
	// In the order in which they stand first, those of scopes within with one's own.
	expect(t, "def f(a, b, c, d):\n def g():\n  d\n  def h():\n   b\n   d\n  a\n  lambda: c\n  b", "module; globals f", "func f in 0; params a b c d; locals a b c d g; cells a b c d", "func g in 1; locals h; free d b a c", "func h in 2; free b d", "func lambda in 2; free c")
	// Where a name stands that is free of another owner it does not count.
	expect(t, "def f(a, b):\n def g():\n  def h(a):\n   lambda: a\n  b\n  lambda: a", "module; globals f", "func f in 0; params a b; locals a b g; cells a b", "func g in 1; locals h; free b a", "func h in 2; params a; locals a; cells a", "func lambda in 3; free a", "func lambda in 2; free a")
	// Where it stands without being free, by a global, it does not either.
	expect(t, "def f(a, b):\n def g():\n  global a\n  a\n  b\n  lambda: a", "module; globals f", "func f in 0; params a b; locals a b g; cells a b", "func g in 1; free b a; globals a", "func lambda in 2; free a")
	// Those within that own it do not take it.
	expect(t, "def f(a):\n def g():\n  def h(a):\n   a", "module; globals f", "func f in 0; params a; locals a g", "func g in 1; locals h", "func h in 2; params a; locals a")
}

func TestP7_2Nonlocal(t *testing.T) {
	expect(t, "def f(a, b):\n def g():\n  nonlocal b, a\n  a = b", "module; globals f", "func f in 0; params a b; locals a b g; cells a b", "func g in 1; free b a")
	// It stands there by its declaration alone.
	expect(t, "def f(a):\n def g():\n  nonlocal a", "module; globals f", "func f in 0; params a; locals a g; cells a", "func g in 1; free a")
	// What is declared so is free in those within too, and is not owned by it, also where it is declared last.
	expect(t, "def f(a):\n def g():\n  a = 1\n  nonlocal a\n  lambda: a", "module; globals f", "func f in 0; params a; locals a g; cells a", "func g in 1; free a", "func lambda in 2; free a")
	expect(t, "def f(a):\n def g():\n  nonlocal a\n  a = 1\n  def h():\n   nonlocal a\n   del a", "module; globals f", "func f in 0; params a; locals a g; cells a", "func g in 1; locals h; free a", "func h in 2; free a")
	expect(t, "def f(a):\n class g:\n  nonlocal a\n  a = 1", "module; globals f", "func f in 0; params a; locals a g; cells a", "class g in 1; free a")
	// Global between plays no part.
	expect(t, "def f(a):\n def g():\n  global a\n  def h():\n   nonlocal a\n   a = 1", "module; globals f", "func f in 0; params a; locals a g; cells a", "func g in 1; locals h; free a; globals a", "func h in 2; free a")
}

func TestP7_2Classes(t *testing.T) {
	// One that a class owns is free in it, for those within.
	expect(t, "def f(a):\n class A:\n  a = a\n  def g(b):\n   a\n   b\n   c", "module; globals f", "func f in 0; params a; locals a A; cells a", "class A in 1; locals a g; free a", "func g in 2; params b; locals b; free a; globals c")
	expect(t, "def f(a):\n class A:\n  global a\n  a = 1\n  b = a\n  lambda: a", "module; globals f", "func f in 0; params a; locals a A; cells a", "class A in 1; locals b; free a; globals a", "func lambda in 2; free a")
	expect(t, "def f(a):\n class A:\n  a\n  class B:\n   a = 1\n   b", "module; globals f", "func f in 0; params a; locals a A; cells a", "class A in 1; locals B; free a", "class B in 2; locals a; globals b")
	// It has no cells, and is no owner.
	expect(t, "class A:\n a = 1\n class B:\n  a\n def f(b):\n  return a", "module; globals A", "class A in 0; locals a B f", "class B in 1; globals a", "func f in 1; params b; locals b; globals a")
	expect(t, "class A:\n c = 1\n for b in c:\n  a = b\n del d\n try:\n  pass\n except e as g:\n  (h, i) = j", "module; globals A", "class A in 0; locals c b a d g h i; globals e j")
}

func TestP7_2Generators(t *testing.T) {
	expect(t, "def f():\n yield 1\n def g():\n  return 2", "module; globals f", "func f in 0; locals g; gen", "func g in 1")
	expect(t, "def f():\n def g():\n  yield 1\n lambda: 2", "module; globals f", "func f in 0; locals g", "func g in 1; gen", "func lambda in 1")
	expect(t, "def f():\n class A:\n  def g():\n   for a in b:\n    try:\n     pass\n    finally:\n     if c:\n      yield a\n      return", "module; globals f", "func f in 0; locals A", "class A in 1; locals g", "func g in 2; locals a; globals b c; gen")
}
