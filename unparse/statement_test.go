package unparse_test

import (
	"strings"
	"testing"

	"krait/api"
	"krait/unparse"
)

func TestP6_3StatementsOfOneLine(t *testing.T) {
	a, b, c, _ := abcd()
	pair := node(api.OTuple, "", a, node(api.OAttr, "x", b), node(api.OIndex, "", c, integer(0)))
	for _, x := range []struct {
		x    spec
		want string
	}{
		{plain(a), "a"}, {plain(lambda(a)), "lambda: a"}, {plain(node(api.OTuple, "", a, b)), "(a, b)"},
		{node(api.SAssign, "", a, integer(1)), "a = 1"}, {node(api.SAssign, "", node(api.OAttr, "b", a), lambda(a)), "a.b = lambda: a"}, {node(api.SAssign, "", node(api.OIndex, "", a, b), node(api.OTuple, "", c)), "a[b] = (c,)"}, {node(api.SAssign, "", pair, pair), "(a, b.x, c[0]) = (a, b.x, c[0])"}, {node(api.SAssign, "", node(api.OTuple, "", a), b), "(a,) = b"},
		{node(api.SAug, "+", a, integer(1)), "a += 1"}, {node(api.SAug, "-", a, lambda(a)), "a -= lambda: a"}, {node(api.SAug, "*", node(api.OAttr, "x", a), b), "a.x *= b"}, {node(api.SAug, "//", node(api.OIndex, "", a, b), b), "a[b] //= b"}, {node(api.SAug, "%", a, conditional(a, b, c)), "a %= a if b else c"}, {node(api.SAug, "**", a, b), "a **= b"},
		{node(api.SBreak, ""), "break"}, {node(api.SContinue, ""), "continue"}, {pass(), "pass"},
		{node(api.SReturn, ""), "return"}, {node(api.SReturn, "", none()), "return None"}, {node(api.SReturn, "", lambda(a)), "return lambda: a"}, {node(api.SReturn, "", node(api.OTuple, "")), "return ()"},
		{node(api.SRaise, ""), "raise"}, {node(api.SRaise, "", a), "raise a"}, {node(api.SRaise, "", conditional(a, b, c)), "raise a if b else c"},
		{node(api.SGlobal, "a"), "global a"}, {node(api.SGlobal, "a b c"), "global a, b, c"}, {node(api.SNonlocal, "a"), "nonlocal a"}, {node(api.SNonlocal, "a _b9 a"), "nonlocal a, _b9, a"},
		{node(api.SDel, "", a), "del a"}, {node(api.SDel, "", node(api.OAttr, "b", a)), "del a.b"}, {node(api.SDel, "", node(api.OIndex, "", a, b)), "del a[b]"},
		{node(api.SAssert, "", a), "assert a"}, {node(api.SAssert, "", lambda(a), conditional(a, b, c)), "assert lambda: a, a if b else c"}, {node(api.SAssert, "", node(api.OTuple, "", a, b)), "assert (a, b)"},
		{node(api.SYield, "", a), "yield a"}, {node(api.SYield, "", lambda(a)), "yield lambda: a"}, {node(api.SYield, "", node(api.OTuple, "", a)), "yield (a,)"},
	} {
		expect(t, x.x, x.want)
		expect(t, node(api.SWhile, "", name("w"), block(x.x, x.x)), "while w:", "    "+x.want, "    "+x.want)
	}
}

func ifs(kids ...spec) spec { return node(api.SIf, "", kids...) }

func TestP6_3IfElifElse(t *testing.T) {
	a, b, c, d := abcd()
	one := block(pass())
	two := block(plain(d), pass())
	expect(t, ifs(a, one), "if a:", "    pass")
	expect(t, ifs(lambda(a), two), "if lambda: a:", "    d", "    pass")
	expect(t, ifs(a, one, two), "if a:", "    pass", "else:", "    d", "    pass")
	expect(t, ifs(a, one, block(ifs(b, two))), "if a:", "    pass", "elif b:", "    d", "    pass")
	expect(t, ifs(a, one, block(ifs(b, one, two))), "if a:", "    pass", "elif b:", "    pass", "else:", "    d", "    pass")
	expect(t, ifs(a, one, block(ifs(b, one, block(ifs(c, one, block(ifs(lambda(d), one, one))))))), "if a:", "    pass", "elif b:", "    pass", "elif c:", "    pass", "elif lambda: d:", "    pass", "else:", "    pass")
}

func TestP6_3ElseThatIsNoElif(t *testing.T) {
	a, b, c, _ := abcd()
	one := block(pass())
	inner := ifs(b, one)
	expect(t, ifs(a, one, block(inner, pass())), "if a:", "    pass", "else:", "    if b:", "        pass", "    pass")
	expect(t, ifs(a, one, block(inner, inner)), "if a:", "    pass", "else:", "    if b:", "        pass", "    if b:", "        pass")
	expect(t, ifs(a, one, block(pass(), inner)), "if a:", "    pass", "else:", "    pass", "    if b:", "        pass")
	expect(t, ifs(a, one, block(node(api.SWhile, "", b, one))), "if a:", "    pass", "else:", "    while b:", "        pass")
	expect(t, ifs(a, one, block(plain(conditional(a, b, c)))), "if a:", "    pass", "else:", "    a if b else c")
	// What an if does is never an elif.
	expect(t, ifs(a, block(inner)), "if a:", "    if b:", "        pass")
	expect(t, ifs(a, block(inner), one), "if a:", "    if b:", "        pass", "else:", "    pass")
	expect(t, ifs(a, block(ifs(b, one, one)), block(ifs(c, one))), "if a:", "    if b:", "        pass", "    else:", "        pass", "elif c:", "    pass")
	expect(t, node(api.SWhile, "", a, block(inner)), "while a:", "    if b:", "        pass")
	// An elif lies where its if does, and so do blocks within it.
	expect(t, node(api.SWhile, "", a, block(ifs(a, one, block(ifs(b, block(ifs(c, one, block(inner))), block(inner, pass())))))),
		"while a:", "    if a:", "        pass", "    elif b:", "        if c:", "            pass", "        elif b:", "            pass", "    else:", "        if b:", "            pass", "        pass")
}

func TestP6_3Loops(t *testing.T) {
	a, b, c, d := abcd()
	body := block(node(api.SBreak, ""), node(api.SContinue, ""))
	expect(t, node(api.SWhile, "", a, body), "while a:", "    break", "    continue")
	expect(t, node(api.SWhile, "", lambda(a), body), "while lambda: a:", "    break", "    continue")
	each := func(target, of spec) spec { return node(api.SFor, "", target, of, body) }
	expect(t, each(a, b), "for a in b:", "    break", "    continue")
	expect(t, each(node(api.OTuple, "", a), b), "for (a,) in b:", "    break", "    continue")
	expect(t, each(node(api.OTuple, "", a, node(api.OAttr, "x", b)), cmp("in", c, d)), "for (a, b.x) in c in d:", "    break", "    continue")
	expect(t, each(node(api.OIndex, "", a, cmp("in", b, c)), lambda(d)), "for a[b in c] in lambda: d:", "    break", "    continue")
	expect(t, each(node(api.OAttr, "x", cmp("in", b, c)), conditional(a, b, c)), "for (b in c).x in a if b else c:", "    break", "    continue")
}

func TestP6_3DefsAndClasses(t *testing.T) {
	a, b, c, _ := abcd()
	one := block(pass())
	expect(t, node(api.SDef, "f", one), "def f():", "    pass")
	expect(t, node(api.SDef, "f", param("a"), block(node(api.SReturn, "", a), pass())), "def f(a):", "    return a", "    pass")
	expect(t, node(api.SDef, "f", param("a"), param("b"), param("c"), one), "def f(a, b, c):", "    pass")
	expect(t, node(api.SDef, "f", param("a", integer(1)), one), "def f(a=1):", "    pass")
	expect(t, node(api.SDef, "f", param("a"), param("b", lambda(c)), param("c", conditional(a, b, c)), one), "def f(a, b=lambda: c, c=a if b else c):", "    pass")
	expect(t, node(api.SDef, "f", block(node(api.SDef, "g", block(node(api.SDef, "h", one))), pass())), "def f():", "    def g():", "        def h():", "            pass", "    pass")
	expect(t, node(api.SClass, "A", one), "class A:", "    pass")
	expect(t, node(api.SClass, "A", b, one), "class A(b):", "    pass")
	expect(t, node(api.SClass, "A", b, node(api.OAttr, "d", c), lambda(a), node(api.OTuple, "", a, b), block(pass(), pass())), "class A(b, c.d, lambda: a, (a, b)):", "    pass", "    pass")
	expect(t, node(api.SClass, "A", block(node(api.SClass, "B", one))), "class A:", "    class B:", "        pass")
}

func TestP6_3Tries(t *testing.T) {
	a, b, c, _ := abcd()
	one := block(pass())
	try := func(kids ...spec) spec { return node(api.STry, "", append([]spec{one}, kids...)...) }
	handler := func(s string, kids ...spec) spec { return node(api.SHandler, s, kids...) }
	final := node(api.SFinal, "", block(plain(c), pass()))
	expect(t, try(final), "try:", "    pass", "finally:", "    c", "    pass")
	expect(t, try(handler("", one)), "try:", "    pass", "except:", "    pass")
	expect(t, try(handler("", a, one)), "try:", "    pass", "except a:", "    pass")
	expect(t, try(handler("e", a, one)), "try:", "    pass", "except a as e:", "    pass")
	expect(t, try(handler("e", lambda(a), one), handler("", conditional(a, b, c), block(plain(a), plain(b))), handler("", one), final),
		"try:", "    pass", "except lambda: a as e:", "    pass", "except a if b else c:", "    a", "    b", "except:", "    pass", "finally:", "    c", "    pass")
	expect(t, try(handler("", block(try(handler("", a, one), node(api.SFinal, "", one)))), node(api.SFinal, "", block(try(handler("", one))))),
		"try:", "    pass", "except:", "    try:", "        pass", "    except a:", "        pass", "    finally:", "        pass", "finally:", "    try:", "        pass", "    except:", "        pass")
}

func TestP6_4ModulesOfStatementsInOrder(t *testing.T) {
	a, b, _, _ := abcd()
	if got := printed(t, lay(module())); got != "" {
		t.Errorf("%q", got)
	}
	want := "b\na\nif a:\n    pass\nb\n"
	for _, l := range []api.Tree{lay(module(plain(b), plain(a), ifs(a, block(pass())), plain(b))), layWide(module(plain(b), plain(a), ifs(a, block(pass())), plain(b)))} {
		if got := printed(t, l); got != want {
			t.Errorf("%s, want %s", got, want)
		}
	}
}

// headed are all statements with blocks, around one block.
func headed(inner spec) []struct {
	x    spec
	head string
} {
	a, b, _, _ := abcd()
	return []struct {
		x    spec
		head string
	}{
		{ifs(a, inner), "if a:"}, {ifs(a, block(pass()), inner), "if a:|pass|else:"}, {node(api.SWhile, "", a, inner), "while a:"}, {node(api.SFor, "", a, b, inner), "for a in b:"},
		{node(api.SDef, "f", inner), "def f():"}, {node(api.SClass, "A", inner), "class A:"},
		{node(api.STry, "", block(pass()), node(api.SFinal, "", inner)), "try:|pass|finally:"}, {node(api.STry, "", block(pass()), node(api.SHandler, "", inner)), "try:|pass|except:"},
		{node(api.STry, "", block(pass()), node(api.SHandler, "e", a, inner)), "try:|pass|except a as e:"},
	}
}

func TestP6_3EachLineHasFourBlanksForEachBlock(t *testing.T) {
	x, want := pass(), []string{"pass"}
	for depth := range api.MaxNest {
		around := headed(block(pass(), x))
		next := around[depth%len(around)]
		x = next.x
		lines := []string{}
		for _, s := range strings.Split(next.head, "|") {
			if s == "pass" {
				s = "    pass"
			}
			lines = append(lines, s)
		}
		lines = append(lines, "    pass")
		for _, s := range want {
			lines = append(lines, "    "+s)
		}
		want = lines
		expect(t, x, want...)
	}
	for _, h := range headed(block(x)) {
		if got := unparse.Module(lay(module(h.x))); got != "" {
			t.Errorf("%s: too deep, but told: %s", h.head, got)
		}
	}
}

func TestP6_3AsManyElifsAsMayBe(t *testing.T) {
	x := ifs(name("a"), block(pass()))
	lines := []string{"if a:", "    pass"}
	for range api.MaxNest - 1 {
		x = ifs(name("a"), block(pass()), block(x))
		lines = append(lines, "elif a:", "    pass")
		expect(t, x, lines...)
	}
	if got := unparse.Module(lay(module(ifs(name("a"), block(pass()), block(x))))); got != "" {
		t.Errorf("too deep, but told: %s", got)
	}
}
