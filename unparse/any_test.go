package unparse_test

import (
	"math"
	"math/rand"
	"strconv"
	"strings"
	"testing"

	"krait/api"
	"krait/parse"
	"krait/tree"
	"krait/unparse"
)

// hold holds a right tree's text against the model, and is that.
func hold(t *testing.T, l api.Tree) string {
	t.Helper()
	got := printed(t, l)
	if want := modelled(l); got != want {
		t.Errorf("%s\nis not\n%s", got, want)
	}
	return got
}

// dumped is all of a node that plays a part, with what is below it.
func dumped(x spec) string {
	var s strings.Builder
	s.WriteString("(" + strconv.Itoa(x.op) + " " + strconv.Quote(x.s) + " " + strconv.FormatInt(x.n, 10))
	for _, k := range x.kids {
		s.WriteString(" " + dumped(k))
	}
	return s.String() + ")"
}

// texts knows of which tree each text was told.
type texts map[string]string

// unlike: no other tree may have the text.
func (all texts) unlike(t *testing.T, s string, x spec) {
	t.Helper()
	is := dumped(x)
	if was, ok := all[s]; ok && was != is {
		t.Errorf("%s is told of %s and of %s", s, was, is)
	}
	all[s] = is
}

// needed: without any two of its brackets, the text must be parsed to another tree, or to none.
func needed(t *testing.T, s string, l api.Tree) {
	t.Helper()
	var open []int
	for i, c := range s {
		switch c {
		case '(':
			open = append(open, i)
		case ')':
			from := open[len(open)-1]
			open = open[:len(open)-1]
			less := s[:from] + " " + s[from+1:i] + " " + s[i+1:]
			if again, _, e := parse.Module(strings.TrimLeft(less, " ")); e == api.OK && tree.Same(l, again) {
				t.Errorf("%s is the same as %s", s, less)
			}
		}
	}
}

func TestP6_5EachSmallExpression(t *testing.T) {
	all := texts{}
	for _, outer := range slots() {
		for _, inner := range slots() {
			for _, kid := range levels() {
				x := outer.in(inner.in(kid.x))
				l := lay(module(plain(x)))
				s := hold(t, l)
				all.unlike(t, s, x)
				needed(t, s, l)
			}
		}
	}
	if len(all) < 10000 {
		t.Errorf("only %d were told", len(all))
	}
}

// grower makes right trees.
type grower struct{ *rand.Rand }

func (g grower) of(all string) string {
	row := strings.Split(all, "|")
	return row[g.Intn(len(row))]
}

func (g grower) text() string {
	b := make([]byte, g.Intn(6))
	for i := range b {
		b[i] = byte(g.Intn(256))
	}
	return string(b)
}

func (g grower) name() string { return g.of("a|b|c|x9|_|notin|Is") }

func (g grower) several(depth, least int) []spec {
	var all []spec
	for range least + g.Intn(3) {
		all = append(all, g.expr(depth))
	}
	return all
}

func (g grower) params(depth int) []spec {
	var all []spec
	for range g.Intn(3) {
		all = append(all, param(g.name()))
	}
	for range g.Intn(3) {
		all = append(all, param(g.name(), g.expr(depth)))
	}
	return all
}

func (g grower) atom() spec {
	switch g.Intn(4) {
	case 0:
		return integer(g.Int63n(math.MaxInt64) >> g.Intn(63))
	case 1:
		return node(api.OStr, g.text())
	case 2:
		return name(g.name())
	}
	return node(1+g.Intn(3), "")
}

// expr is one of at most that Depth, 3 or more.
func (g grower) expr(depth int) spec {
	if depth <= 3 {
		return g.atom()
	}
	e := func() spec { return g.expr(depth - 1 - g.Intn(2)) }
	switch op := api.OList + g.Intn(api.OLambda-api.OList+1); op {
	case api.OList, api.OTuple:
		return node(op, "", g.several(depth-1, 0)...)
	case api.ODict:
		return node(op, "", append(g.several(depth-1, 0), e(), e())[g.Intn(2)*2:]...).evened()
	case api.ONeg, api.ONot:
		return node(op, "", e())
	case api.OBin:
		return bin(g.of("+|-|*|//|%|**"), e(), e())
	case api.OCmp:
		return cmp(g.of("==|!=|<|<=|>|>=|in|not in|is|is not"), e(), e())
	case api.OIf, api.OSlice:
		return node(op, "", e(), e(), e())
	case api.OCall:
		return node(op, "", g.several(depth-1, 1)...)
	case api.OAttr:
		return node(op, g.name(), e())
	case api.OLambda:
		return lambda(append(g.params(depth-2), e())...)
	default:
		return node(op, "", e(), e())
	}
}

// evened is a dict whose last key has a value.
func (x spec) evened() spec {
	x.kids = x.kids[:len(x.kids)/2*2]
	return x
}

func (g grower) target(depth int) spec {
	switch g.Intn(3) {
	case 0:
		return name(g.name())
	case 1:
		return node(api.OAttr, g.name(), g.expr(depth-1))
	}
	return node(api.OIndex, "", g.expr(depth-1), g.expr(depth-1))
}

func (g grower) wide(depth int) spec {
	if g.Intn(3) > 0 {
		return g.target(depth)
	}
	all := []spec{g.target(depth - 1)}
	for range g.Intn(3) {
		all = append(all, g.target(depth-1))
	}
	return node(api.OTuple, "", all...)
}

func (g grower) block(blocks, depth int) spec {
	var all []spec
	for range 1 + g.Intn(2) {
		all = append(all, g.statement(blocks-1, depth))
	}
	return block(all...)
}

// statement is one in which at most so many blocks lie within one another, and expressions are of at most that Depth.
func (g grower) statement(blocks, depth int) spec {
	if blocks == 0 || g.Intn(3) == 0 {
		return g.simple(depth)
	}
	e := func() spec { return g.expr(depth) }
	b := func() spec { return g.block(blocks, depth) }
	switch op := []int{api.SIf, api.SIf, api.SWhile, api.SFor, api.SDef, api.SClass, api.STry}[g.Intn(7)]; op {
	case api.SIf:
		return ifs([]spec{e(), b(), b()}[:2+g.Intn(2)]...)
	case api.SFor:
		return node(op, "", g.wide(depth), e(), b())
	case api.SDef:
		return node(op, g.name(), append(g.params(depth), b())...)
	case api.SClass:
		return node(op, g.name(), append(g.several(depth, 0), b())...)
	case api.STry:
		return g.try(e, b)
	default:
		return node(op, "", e(), b())
	}
}

func (g grower) try(e, b func() spec) spec {
	all := []spec{b()}
	for range g.Intn(3) {
		all = append(all, node(api.SHandler, g.of("|e|_x"), e(), b()))
	}
	if g.Intn(3) == 0 {
		all = append(all, node(api.SHandler, "", b()))
	}
	if len(all) == 1 || g.Intn(2) == 0 {
		all = append(all, node(api.SFinal, "", b()))
	}
	return node(api.STry, "", all...)
}

func (g grower) simple(depth int) spec {
	switch op := []int{api.SExpr, api.SAssign, api.SAug, api.SBreak, api.SContinue, api.SPass, api.SReturn, api.SRaise, api.SGlobal, api.SNonlocal, api.SDel, api.SAssert, api.SYield}[g.Intn(13)]; op {
	case api.SAssign:
		return node(op, "", g.wide(depth), g.expr(depth))
	case api.SAug:
		return node(op, g.of("+|-|*|//|%|**"), g.target(depth), g.expr(depth))
	case api.SBreak, api.SContinue, api.SPass:
		return node(op, "")
	case api.SReturn, api.SRaise:
		return node(op, "", []spec{g.expr(depth)}[:g.Intn(2)]...)
	case api.SGlobal, api.SNonlocal:
		return node(op, g.of("a|a b|_ x9 a|c c"))
	case api.SDel:
		return node(op, "", g.target(depth))
	case api.SAssert:
		return node(op, "", []spec{g.expr(depth), g.expr(depth)}[:1+g.Intn(2)]...)
	default:
		return node(op, "", g.expr(depth))
	}
}

func TestP6_5GrownTrees(t *testing.T) {
	g := grower{rand.New(rand.NewSource(6))}
	all := texts{}
	for i := range 1500 {
		var statements []spec
		for range g.Intn(5) {
			statements = append(statements, g.statement(g.Intn(5), 3+g.Intn(5)))
		}
		x := module(statements...)
		s := hold(t, lay(x))
		if other := hold(t, layWide(x)); other != s {
			t.Errorf("%s\nin another order is\n%s", s, other)
		}
		all.unlike(t, s, x)
		if i > 1400 && !strings.ContainsAny(s, `'"`) {
			needed(t, s, lay(x))
		}
	}
}

func TestP6_5DeepExpressions(t *testing.T) {
	g := grower{rand.New(rand.NewSource(7))}
	rows := slots()
	for range 300 {
		// A parameter is a node more, so that a slot may take two.
		x, depth := name("a"), 1
		for depth+2 <= api.MaxNest {
			slot := rows[g.Intn(len(rows))]
			x = slot.in(x)
			depth++
			if strings.HasPrefix(slot.text, "lambda x") {
				depth++
			}
		}
		hold(t, lay(module(plain(x))))
	}
}

func TestP6_5PlacesPlayNoPart(t *testing.T) {
	g := grower{rand.New(rand.NewSource(8))}
	for range 200 {
		l := lay(module(g.statement(3, 6)))
		want := unparse.Module(l)
		exprs := make([]string, len(l))
		for i := range l {
			exprs[i] = unparse.Expr(l, i)
		}
		for i := range l {
			l[i].At = []int{0, -1, math.MinInt, math.MaxInt, g.Int()}[g.Intn(5)]
		}
		if got := unparse.Module(l); got != want {
			t.Errorf("%s\nwith other places is\n%s", want, got)
		}
		for i, s := range exprs {
			if got := unparse.Expr(l, i); got != s {
				t.Errorf("%d: %s with other places is %s", i, s, got)
			}
			if n := l[i]; n.Op <= api.OLambda && s != modelAt(l, i, 0) {
				t.Errorf("%d: %s is not %s", i, s, modelAt(l, i, 0))
			} else if n.Op > api.OLambda && s != "" {
				t.Errorf("%d is no expression: %s", i, s)
			}
		}
	}
}

func TestP6_5WhatWasParsed(t *testing.T) {
	for _, x := range []struct{ s, want string }{
		{"", ""}, {"# nothing\n\n   # here", ""}, {"x=1", "x = 1\n"}, {"((a+b))*c", "(a + b) * c\n"}, {"(-x)**-y", "(-x) ** -y\n"}, {"not(a in b)", "not a in b\n"},
		{"(((a)))", "a\n"}, {"a+(b*c)-(d-e)", "a + b * c - (d - e)\n"}, {"a**(b**c)", "a ** b ** c\n"}, {"-(1)", "-1\n"}, {"x = (1, )", "x = (1,)\n"}, {"f(a , b,)", "f(a, b)\n"}, {"[a,]", "[a]\n"}, {"{a:b,}", "{a: b}\n"}, {"a[ : ]", "a[:]\n"}, {"a[None:(b)]", "a[:b]\n"},
		{`"it's"`, `'it\'s'` + "\n"}, {`"\x41\t\x00\xfF"`, "'A\\t\\x00\\xff'\n"}, {"lambda a,b=(1):(a)", "lambda a, b=1: a\n"}, {"f(1,\n  2)  # twice", "f(1, 2)\n"}, {"a  not   in b", "a not in b\n"}, {"a is  not b", "a is not b\n"}, {"a is (not b)", "a is (not b)\n"},
		{"if a:\n pass\nelse:\n if b:\n  pass\n", "if a:\n    pass\nelif b:\n    pass\n"}, {"if a:\n\n pass\n # x\nelif(b):\n  pass\nelse:\n      pass", "if a:\n    pass\nelif b:\n    pass\nelse:\n    pass\n"},
		{"def f( a,b = 1 ):\n return(a)\nclass A():\n pass\nclass B(A,):\n pass", "def f(a, b=1):\n    return a\nclass A:\n    pass\nclass B(A):\n    pass\n"},
		{"for(a,b)in(c):\n pass", "for (a, b) in c:\n    pass\n"}, {"try:\n a\nexcept(b)as c:\n d\nexcept:\n e\nfinally:\n f", "try:\n    a\nexcept b as c:\n    d\nexcept:\n    e\nfinally:\n    f\n"}, {"global a,b\nnonlocal c\ndel(a)\nassert(a),(b)", "global a, b\nnonlocal c\ndel a\nassert a, b\n"},
	} {
		l, place, e := parse.Module(x.s)
		if e != api.OK {
			t.Fatalf("%q: %v at %d", x.s, e, place)
		}
		if got := hold(t, l); got != x.want {
			t.Errorf("%q: %q, want %q", x.s, got, x.want)
		}
	}
}

func TestP6_5AnyStr(t *testing.T) {
	g := grower{rand.New(rand.NewSource(9))}
	for i := range 256 {
		hold(t, lay(module(plain(node(api.OStr, string([]byte{byte(i), 'a', byte(i)}))))))
	}
	long := make([]byte, api.MaxText)
	g.Read(long)
	hold(t, lay(module(plain(node(api.OStr, string(long))))))
}

func TestP1LongTrees(t *testing.T) {
	const many = 1 << 16
	row := make([]spec, many)
	for i := range row {
		row[i] = integer(int64(i))
	}
	l := lay(module(node(api.SReturn, "", node(api.OList, "", row...))))
	if got := unparse.Module(l); got != modelled(l) {
		t.Error("a long list")
	}
	for i := range row {
		row[i] = node(api.SGlobal, "a b")
	}
	l = lay(module(ifs(name("a"), block(row...))))
	if got := unparse.Module(l); got != "if a:\n"+strings.Repeat("    global a, b\n", many) {
		t.Error("a long block")
	}
	long := strings.Repeat("a", 1<<20)
	l = lay(module(plain(node(api.OAttr, long, name(long)))))
	if got := unparse.Module(l); got != long+"."+long+"\n" {
		t.Error("a long name")
	}
	names := strings.Repeat("a ", many) + "a"
	l = lay(module(node(api.SNonlocal, names)))
	if got := unparse.Module(l); got != "nonlocal "+strings.ReplaceAll(names, " ", ", ")+"\n" {
		t.Error("many names")
	}
}
