package unparse_test

import (
	"math"
	"strings"
	"testing"

	"krait/api"
)

func TestP6_2Atoms(t *testing.T) {
	a, b, c, d := abcd()
	for _, x := range []struct {
		x    spec
		want string
	}{
		{none(), "None"}, {node(api.OTrue, ""), "True"}, {node(api.OFalse, ""), "False"},
		{integer(0), "0"}, {integer(7), "7"}, {integer(1234567890), "1234567890"}, {integer(math.MaxInt64), "9223372036854775807"},
		{node(api.OStr, ""), "''"}, {node(api.OStr, "ab"), "'ab'"}, {node(api.OStr, "it's \"a\"\n\t\\\x00\x7f\xff"), `'it\'s "a"\n\t\\\x00\x7f\xff'`},
		{name("a"), "a"}, {name("_x9"), "_x9"}, {name("Nones"), "Nones"},
		{node(api.OList, ""), "[]"}, {node(api.OList, "", a), "[a]"}, {node(api.OList, "", a, b, c), "[a, b, c]"},
		{node(api.OTuple, ""), "()"}, {node(api.OTuple, "", a), "(a,)"}, {node(api.OTuple, "", a, b), "(a, b)"}, {node(api.OTuple, "", a, b, c), "(a, b, c)"},
		{node(api.OTuple, "", node(api.OTuple, "", node(api.OTuple, ""))), "(((),),)"},
		{node(api.ODict, ""), "{}"}, {node(api.ODict, "", a, b), "{a: b}"}, {node(api.ODict, "", a, b, c, d, a, a), "{a: b, c: d, a: a}"},
	} {
		expectExpr(t, x.x, x.want)
	}
}

func TestP6_2Operators(t *testing.T) {
	a, b, c, _ := abcd()
	expectExpr(t, neg(a), "-a")
	expectExpr(t, node(api.ONot, "", a), "not a")
	for _, s := range []string{"+", "-", "*", "//", "%", "**"} {
		expectExpr(t, bin(s, a, b), "a "+s+" b")
	}
	for _, s := range []string{"==", "!=", "<", "<=", ">", ">=", "in", "not in", "is", "is not"} {
		expectExpr(t, cmp(s, a, b), "a "+s+" b")
	}
	expectExpr(t, node(api.OAnd, "", a, b), "a and b")
	expectExpr(t, node(api.OOr, "", a, b), "a or b")
	expectExpr(t, conditional(a, b, c), "a if b else c")
}

func TestP6_2Postfixes(t *testing.T) {
	a, b, c, d := abcd()
	expectExpr(t, node(api.OCall, "", a), "a()")
	expectExpr(t, node(api.OCall, "", a, b), "a(b)")
	expectExpr(t, node(api.OCall, "", a, b, c, d), "a(b, c, d)")
	expectExpr(t, node(api.OCall, "", a, node(api.OTuple, "", b)), "a((b,))")
	expectExpr(t, node(api.OAttr, "x", a), "a.x")
	expectExpr(t, node(api.OAttr, "x", integer(1)), "1.x")
	expectExpr(t, node(api.OIndex, "", a, b), "a[b]")
	expectExpr(t, node(api.OIndex, "", a, none()), "a[None]")
	expectExpr(t, node(api.OIndex, "", a, node(api.OTuple, "", b, c)), "a[(b, c)]")
	expectExpr(t, node(api.OCall, "", node(api.OIndex, "", node(api.OAttr, "x", node(api.OSlice, "", a, b, c)), d)), "a[b:c].x[d]()")
}

func TestP6_2Slices(t *testing.T) {
	a, b, c, d := abcd()
	slice := func(from, to spec) spec { return node(api.OSlice, "", a, from, to) }
	expectExpr(t, slice(b, c), "a[b:c]")
	expectExpr(t, slice(none(), c), "a[:c]")
	expectExpr(t, slice(b, none()), "a[b:]")
	expectExpr(t, slice(none(), none()), "a[:]")
	expectExpr(t, slice(lambda(b), lambda(c)), "a[lambda: b:lambda: c]")
	expectExpr(t, slice(lambda(none()), none()), "a[lambda: None:]")
	expectExpr(t, slice(node(api.OList, "", none()), conditional(b, c, d)), "a[[None]:b if c else d]")
	expectExpr(t, node(api.OSlice, "", none(), none(), none()), "None[:]")
}

func TestP6_2LambdasAndParameters(t *testing.T) {
	a, b, c, d := abcd()
	expectExpr(t, lambda(a), "lambda: a")
	expectExpr(t, lambda(param("b"), a), "lambda b: a")
	expectExpr(t, lambda(param("b"), param("c"), param("d"), a), "lambda b, c, d: a")
	expectExpr(t, lambda(param("b", integer(1)), a), "lambda b=1: a")
	expectExpr(t, lambda(param("b"), param("c", integer(1)), param("d", c), a), "lambda b, c=1, d=c: a")
	expectExpr(t, lambda(param("b", lambda(c)), lambda(d)), "lambda b=lambda: c: lambda: d")
	expectExpr(t, lambda(param("b", lambda(param("c"), c)), param("d", conditional(a, b, c)), d), "lambda b=lambda c: c, d=a if b else c: d")
	expectExpr(t, lambda(lambda(conditional(a, b, c))), "lambda: lambda: a if b else c")
}

// levels are an expression of each level, from 0 on, with what the chapter says is its text.
func levels() []struct {
	x    spec
	text string
} {
	a, b, c, _ := abcd()
	return []struct {
		x    spec
		text string
	}{
		{lambda(a), "lambda: a"}, {conditional(a, b, c), "a if b else c"}, {node(api.OOr, "", a, b), "a or b"}, {node(api.OAnd, "", a, b), "a and b"},
		{node(api.ONot, "", a), "not a"}, {cmp("not in", a, b), "a not in b"}, {bin("-", a, b), "a - b"}, {bin("%", a, b), "a % b"},
		{neg(a), "-a"}, {bin("**", a, b), "a ** b"}, {node(api.OCall, "", a), "a()"}, {a, "a"},
	}
}

// slots are all places of kids, as a text with @ for the kid and the level at which it stands there.
func slots() []struct {
	in    func(kid spec) spec
	text  string
	level int
} {
	w, x, y, z := name("w"), name("x"), name("y"), name("z")
	type slot = struct {
		in    func(kid spec) spec
		text  string
		level int
	}
	of := func(level int, text string, in func(kid spec) spec) slot { return slot{in, text, level} }
	all := []slot{
		of(0, "[@]", func(k spec) spec { return node(api.OList, "", k) }),
		of(0, "[x, @, z]", func(k spec) spec { return node(api.OList, "", x, k, z) }),
		of(0, "(@,)", func(k spec) spec { return node(api.OTuple, "", k) }),
		of(0, "(x, @)", func(k spec) spec { return node(api.OTuple, "", x, k) }),
		of(0, "{@: y}", func(k spec) spec { return node(api.ODict, "", k, y) }),
		of(0, "{x: @}", func(k spec) spec { return node(api.ODict, "", x, k) }),
		of(0, "{x: y, @: w}", func(k spec) spec { return node(api.ODict, "", x, y, k, w) }),
		of(8, "-@", neg),
		of(4, "not @", func(k spec) spec { return node(api.ONot, "", k) }),
		of(3, "@ and y", func(k spec) spec { return node(api.OAnd, "", k, y) }),
		of(4, "x and @", func(k spec) spec { return node(api.OAnd, "", x, k) }),
		of(2, "@ or y", func(k spec) spec { return node(api.OOr, "", k, y) }),
		of(3, "x or @", func(k spec) spec { return node(api.OOr, "", x, k) }),
		of(2, "@ if y else z", func(k spec) spec { return conditional(k, y, z) }),
		of(2, "x if @ else z", func(k spec) spec { return conditional(x, k, z) }),
		of(0, "x if y else @", func(k spec) spec { return conditional(x, y, k) }),
		of(10, "@()", func(k spec) spec { return node(api.OCall, "", k) }),
		of(0, "x(@)", func(k spec) spec { return node(api.OCall, "", x, k) }),
		of(0, "x(y, @)", func(k spec) spec { return node(api.OCall, "", x, y, k) }),
		of(10, "@.y", func(k spec) spec { return node(api.OAttr, "y", k) }),
		of(10, "@[y]", func(k spec) spec { return node(api.OIndex, "", k, y) }),
		of(0, "x[@]", func(k spec) spec { return node(api.OIndex, "", x, k) }),
		of(10, "@[y:z]", func(k spec) spec { return node(api.OSlice, "", k, y, z) }),
		of(0, "x[@:]", func(k spec) spec { return node(api.OSlice, "", x, k, none()) }),
		of(0, "x[:@]", func(k spec) spec { return node(api.OSlice, "", x, none(), k) }),
		of(0, "lambda: @", func(k spec) spec { return lambda(k) }),
		of(0, "lambda x: @", func(k spec) spec { return lambda(param("x"), k) }),
		of(0, "lambda x=@: y", func(k spec) spec { return lambda(param("x", k), y) }),
		of(0, "lambda x, y=@, z=w: z", func(k spec) spec { return lambda(param("x"), param("y", k), param("z", w), z) }),
	}
	for s, sides := range map[string][2]int{"+": {6, 7}, "-": {6, 7}, "*": {7, 8}, "//": {7, 8}, "%": {7, 8}, "**": {10, 8}} {
		all = append(all, of(sides[0], "@ "+s+" y", func(k spec) spec { return bin(s, k, y) }), of(sides[1], "x "+s+" @", func(k spec) spec { return bin(s, x, k) }))
	}
	for _, s := range []string{"==", "!=", "<", "<=", ">", ">=", "in", "not in", "is", "is not"} {
		all = append(all, of(6, "@ "+s+" y", func(k spec) spec { return cmp(s, k, y) }), of(6, "x "+s+" @", func(k spec) spec { return cmp(s, x, k) }))
	}
	return all
}

func TestP6_1BracketsAtEachLevel(t *testing.T) {
	for _, slot := range slots() {
		for level, kid := range levels() {
			text := kid.text
			if level < slot.level {
				text = "(" + text + ")"
			}
			expectExpr(t, slot.in(kid.x), strings.ReplaceAll(slot.text, "@", text))
		}
	}
}

func TestP6_1LevelOfEachKind(t *testing.T) {
	a, b, c, d := abcd()
	kinds := [][]spec{
		{lambda(a), lambda(param("a"), b)}, {conditional(a, b, c)}, {node(api.OOr, "", a, b)}, {node(api.OAnd, "", a, b)}, {node(api.ONot, "", a)},
		{cmp("==", a, b), cmp("!=", a, b), cmp("<", a, b), cmp("<=", a, b), cmp(">", a, b), cmp(">=", a, b), cmp("in", a, b), cmp("not in", a, b), cmp("is", a, b), cmp("is not", a, b)},
		{bin("+", a, b), bin("-", a, b)}, {bin("*", a, b), bin("//", a, b), bin("%", a, b)}, {neg(a)}, {bin("**", a, b)},
		{node(api.OCall, "", a, b), node(api.OAttr, "b", a), node(api.OIndex, "", a, b), node(api.OSlice, "", a, b, c)},
		{none(), node(api.OTrue, ""), node(api.OFalse, ""), integer(1), node(api.OStr, "s"), a, node(api.OList, "", a), node(api.OTuple, "", a), node(api.OTuple, ""), node(api.ODict, "", a, d)},
	}
	// No slot tells 0 from 1, 4 from 5, 8 from 9, or 10 from 11.
	for _, slot := range slots() {
		for level, row := range kinds {
			for _, kid := range row {
				got := printed(t, lay(module(plain(slot.in(kid)))))
				alone := strings.TrimSuffix(printed(t, lay(module(plain(kid)))), "\n")
				if kid.op == api.ONone && (slot.text == "x[@:]" || slot.text == "x[:@]") {
					alone = ""
				}
				if level < slot.level {
					alone = "(" + alone + ")"
				}
				if want := strings.ReplaceAll(slot.text, "@", alone) + "\n"; got != want {
					t.Errorf("%s, want %s", got, want)
				}
			}
		}
	}
}

func TestP6_1Examples(t *testing.T) {
	a, b, c, _ := abcd()
	x, y := name("x"), name("y")
	expectExpr(t, bin("*", bin("+", a, b), c), "(a + b) * c")
	expectExpr(t, bin("**", neg(x), neg(y)), "(-x) ** -y")
	expectExpr(t, node(api.ONot, "", cmp("in", a, b)), "not a in b")
	expectExpr(t, bin("-", bin("-", a, b), bin("-", b, c)), "a - b - (b - c)")
	expectExpr(t, bin("**", bin("**", a, b), bin("**", b, c)), "(a ** b) ** b ** c")
	expectExpr(t, neg(bin("**", a, b)), "-a ** b")
	expectExpr(t, neg(neg(a)), "--a")
	expectExpr(t, bin("-", a, neg(b)), "a - -b")
	expectExpr(t, node(api.OAttr, "x", neg(a)), "(-a).x")
	expectExpr(t, node(api.ONot, "", node(api.ONot, "", a)), "not not a")
	expectExpr(t, cmp("<", cmp("<", a, b), cmp("<", b, c)), "(a < b) < (b < c)")
	expectExpr(t, node(api.OAnd, "", node(api.OAnd, "", a, b), node(api.OAnd, "", b, c)), "a and b and (b and c)")
	expectExpr(t, node(api.OOr, "", node(api.OOr, "", a, b), node(api.OOr, "", b, c)), "a or b or (b or c)")
	expectExpr(t, conditional(conditional(a, b, c), lambda(a), conditional(a, b, lambda(c))), "(a if b else c) if (lambda: a) else a if b else lambda: c")
}
