package parse_test

import (
	"strings"
	"testing"

	"krait/api"
	"krait/parse"
)

func TestP5_1Example(t *testing.T) {
	got, place, e := parse.Module("x = 1\n")
	want := api.Tree{{Op: api.OName, S: "x"}, {Op: api.OInt, At: 4, N: 1}, {Op: api.SAssign, Kids: []int{0, 1}}, {Op: api.SModule, Kids: []int{2}}}
	if !equal(got, want) || place != 0 || e != api.OK {
		t.Error(got, place, e)
	}
	refuse(t, "$1 = x\n", api.ErrTarget)
}

func TestP5_1Modules(t *testing.T) {
	for _, s := range []string{"", "\n", "   ", "# x", "\n\n  # x\n"} {
		got, place, e := parse.Module(s)
		if !equal(got, api.Tree{{Op: api.SModule}}) || place != 0 || e != api.OK {
			t.Errorf("%q: %v, %d, %d", s, got, place, e)
		}
	}
	expect(t, "pass", "(pass)")
	expect(t, "pass\nx\n\npass\ny = 1\n", "(pass) (expr x) (pass) (= y 1)")
	expect(t, strings.Repeat("pass\n", 3000), strings.TrimSuffix(strings.Repeat("(pass) ", 3000), " "))
}

func TestP5_1StatementsOfOneWord(t *testing.T) {
	expect(t, "pass\n", "(pass)")
	expect(t, "break\n", "(break)")
	expect(t, "continue\n", "(continue)")
	expect(t, "return\n", "(return)")
	expect(t, "raise\n", "(raise)")
}

func TestP5_1ReturnAndRaise(t *testing.T) {
	for _, s := range []string{"return", "raise"} {
		expect(t, s+" x\n", "("+s+" x)")
		expect(t, s+" (1, 2)\n", "("+s+" (tuple 1 2))")
		expect(t, s+" a if b else c", "("+s+" (if-else a b c))")
		expect(t, s+"(x)", "("+s+" x)")
		expect(t, s+" lambda: x", "("+s+" (lambda x))")
	}
}

func TestP5_1GlobalAndNonlocal(t *testing.T) {
	for _, s := range []string{"global", "nonlocal"} {
		expect(t, s+" x\n", "("+s+" x)")
		expect(t, s+" x, _y,Z9   ,  x\n", "("+s+" x _y Z9 x)")
	}
	many := strings.TrimSuffix(strings.Repeat("name, ", 50000), ", ")
	expect(t, "global "+many, "(global "+strings.ReplaceAll(many, ",", "")+")")
}

func TestP5_1Del(t *testing.T) {
	expect(t, "del x", "(del x)")
	expect(t, "del x.y", "(del (.y x))")
	expect(t, "del x[1]", "(del (index x 1))")
	expect(t, "del (x)", "(del x)")
	expect(t, "del f(a)[b].c", "(del (.c (index (call f a) b)))")
}

func TestP5_1AssertAndYield(t *testing.T) {
	expect(t, "assert x", "(assert x)")
	expect(t, "assert x, y", "(assert x y)")
	expect(t, "assert (x, y)", "(assert (tuple x y))")
	expect(t, "assert a == b, 'no' + c", "(assert (== a b) (+ no c))")
	expect(t, "yield x", "(yield x)")
	expect(t, "yield (x, y)", "(yield (tuple x y))")
	expect(t, "yield lambda: None", "(yield (lambda None))")
}

func TestP5_1Exprs(t *testing.T) {
	for s, want := range map[string]string{
		"x": "x", "1": "1", "None": "None", "'a'": "a", "()": "tuple", "f(x)": "(call f x)", "-x": "(neg x)", "not x": "(not x)",
		"lambda: x": "(lambda x)", "lambda a, b=1: a": "(lambda (param a) (param b 1) a)", "a == b": "(== a b)", "a in b": "(in a b)",
		"a if b else c": "(if-else a b c)", "{a: b}": "(dict a b)", "(a)": "a", "(a, b)": "(tuple a b)", "a[:]": "(slice a None None)",
		"True": "True", "x\n": "x", "a or b and c": "(or a (and b c))",
	} {
		expect(t, s, "(expr "+want+")")
	}
}

func TestP5_1Assign(t *testing.T) {
	expect(t, "x = 1", "(= x 1)")
	expect(t, "x.y = 1", "(= (.y x) 1)")
	expect(t, "x[0] = 1", "(= (index x 0) 1)")
	expect(t, "(x) = 1", "(= x 1)")
	expect(t, "(x,) = y", "(= (tuple x) y)")
	expect(t, "(x, y.z, a[b],) = c", "(= (tuple x (.z y) (index a b)) c)")
	expect(t, "((x), (y)) = z", "(= (tuple x y) z)")
	expect(t, "f(x).y = a == b", "(= (.y (call f x)) (== a b))")
	expect(t, "x = lambda a=1: a", "(= x (lambda (param a 1) a))")
	expect(t, "x=(1, 2)", "(= x (tuple 1 2))")
}

func TestP5_1Aug(t *testing.T) {
	for _, op := range []string{"+", "-", "*", "//", "%", "**"} {
		expect(t, "x "+op+"= 1", "(aug "+op+" x 1)")
		expect(t, "x.y"+op+"=1", "(aug "+op+" (.y x) 1)")
		expect(t, "(x[y]) "+op+"= -1", "(aug "+op+" (index x y) (neg 1))")
	}
}

func TestP5_1LinesThatGoOn(t *testing.T) {
	expect(t, "x = (\n1,\n   2)\ny", "(= x (tuple 1 2)) (expr y)")
	expect(t, "def f(a,\nb):\n  pass\n", "(def f (param a) (param b) (block (pass)))")
	expect(t, "class A(\n):\n  pass\n", "(class A (block (pass)))")
}

func TestP5_4CommentsAndIndentationPlayNoPart(t *testing.T) {
	want := "(if x (block (while y (block (pass) (expr z))) (pass)) (block (pass))) (expr w)"
	expect(t, "if x:\n while y:\n  pass\n  z\n pass\nelse:\n pass\nw\n", want)
	expect(t, "if x:\n         while y:\n                 pass\n                 z\n         pass\nelse:\n  pass\nw", want)
	expect(t, "# a\nif x: # b\n\n      # c\n   while y: # :\n # d\n     pass # e\n\n\n     z   \n#f\n   pass\n        # g\nelse   :\n  # h\n    pass\n  # i\nw # j\n# k", want)
	for _, s := range []string{"if x:\n  pass\n", "x = 1\n"} {
		plain, _, _ := parse.Module(s)
		other, _, _ := parse.Module(strings.ReplaceAll(s, "\n", "  # y\n\n # z\n"))
		for i := range plain {
			plain[i].At, other[i].At = 0, 0
		}
		if !equal(plain, other) {
			t.Errorf("%q: %v, with comments %v", s, plain, other)
		}
	}
}
