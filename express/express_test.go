package express_test

import (
	"math"
	"strings"
	"testing"

	"krait/api"
)

func TestP4_1Example(t *testing.T) {
	expect(t, "1 + 2 * 3", "(+ 1 (* 2 3))")
	expectRow(t, row(integer(1), sign("+"), integer(2), sign("*"), integer(3)), 5, "(+@0 1@0 (*@20 2@20 3@40))")
}

func TestP4_1ExamplesOfTheWhole(t *testing.T) {
	expect(t, "7 // -2", "(// 7 (neg 2))")
	expect(t, "7 % -2", "(% 7 (neg 2))")
	expect(t, "not a == b", "(not (== a b))")
	expect(t, "-2 ** 2", "(neg (** 2 2))")
	expect(t, "{2: 1, 1: 2}", "(dict 2 1 1 2)")
	expect(t, "f(21)", "(call f 21)")
}

func TestP4_1Lambda(t *testing.T) {
	expect(t, "lambda: 1", "(lambda 1)")
	expect(t, "lambda a: a", "(lambda (=a) a)")
	expect(t, "lambda a, b, c: a", "(lambda (=a) (=b) (=c) a)")
	expect(t, "lambda a=1: a", "(lambda (=a 1) a)")
	expect(t, "lambda a, b=1, c=a: a", "(lambda (=a) (=b 1) (=c a) a)")
	expect(t, "lambda a, a=a: a", "(lambda (=a) (=a a) a)")
	expect(t, "lambda a=1 if b else 2, c=d or e: f", "(lambda (=a (if 1 b 2)) (=c (or d e)) f)")
	expect(t, "lambda a=lambda b: c, d=lambda: e: f", "(lambda (=a (lambda (=b) c)) (=d (lambda e)) f)")
	expect(t, "lambda: lambda: a", "(lambda (lambda a))")
	expect(t, "lambda: a if b else c", "(lambda (if a b c))")
	expectRow(t, tokens(t, "lambda: a or b, c"), 5, "(lambda (or a b))")
	expect(t, "(lambda: a)(b)", "(call (lambda a) b)")
	expect(t, "(lambda: a) or b", "(or (lambda a) b)")
	expect(t, "[lambda a: 1, lambda: 2]", "(list (lambda (=a) 1) (lambda 2))")
	expect(t, "{lambda: 1: lambda: 2}", "(dict (lambda 1) (lambda 2))")
	expect(t, "a[lambda: 1:lambda: 2]", "(slice a (lambda 1) (lambda 2))")
	expect(t, "f(lambda a, b: c, d)", "(call f (lambda (=a) (=b) c) d)")
}

func TestP4_1If(t *testing.T) {
	expect(t, "a if b else c", "(if a b c)")
	expect(t, "a if b else c if d else e", "(if a b (if c d e))")
	expect(t, "(a if b else c) if d else e", "(if (if a b c) d e)")
	expect(t, "a or b if c or d else e or f", "(if (or a b) (or c d) (or e f))")
	expect(t, "a if b else lambda: c", "(if a b (lambda c))")
	expect(t, "a if (b if c else d) else e", "(if a (if b c d) e)")
	expect(t, "a if not b else not c", "(if a (not b) (not c))")
}

func TestP4_1OrAndNot(t *testing.T) {
	expect(t, "a or b", "(or a b)")
	expect(t, "a or b or c or d", "(or (or (or a b) c) d)")
	expect(t, "a and b", "(and a b)")
	expect(t, "a and b and c and d", "(and (and (and a b) c) d)")
	expect(t, "a or b and c or d", "(or (or a (and b c)) d)")
	expect(t, "a and b or c and d", "(or (and a b) (and c d))")
	expect(t, "a and (b or c)", "(and a (or b c))")
	expect(t, "a or (b or c)", "(or a (or b c))")
	expect(t, "not a", "(not a)")
	expect(t, "not not not a", "(not (not (not a)))")
	expect(t, "not a and not b or not c", "(or (and (not a) (not b)) (not c))")
	expect(t, "not a < b", "(not (< a b))")
	expect(t, "not a in b", "(not (in a b))")
	expect(t, "not a not in b", "(not (not in a b))")
	expect(t, "not a is not b", "(not (is not a b))")
	expect(t, "not -a + b", "(not (+ (neg a) b))")
}

func TestP4_1Comparisons(t *testing.T) {
	for _, op := range []string{"==", "!=", "<", "<=", ">", ">=", "in", "not in", "is", "is not"} {
		expect(t, "a "+op+" b", "("+op+" a b)")
		expect(t, "a + 1 "+op+" -b * 2", "("+op+" (+ a 1) (* (neg b) 2))")
		expect(t, "a and b "+op+" c or d", "(or (and a ("+op+" b c)) d)")
		expect(t, "a "+op+" b and c "+op+" d", "(and ("+op+" a b) ("+op+" c d))")
		expect(t, "a "+op+" b if c "+op+" d else e "+op+" f", "(if ("+op+" a b) ("+op+" c d) ("+op+" e f))")
		expect(t, "(a "+op+" b) "+op+" (c "+op+" d)", "("+op+" ("+op+" a b) ("+op+" c d))")
		expect(t, "f(a "+op+" b)["+"c "+op+" d]", "(index (call f ("+op+" a b)) ("+op+" c d))")
	}
	expect(t, "a   not   in   b", "(not in a b)")
	expect(t, "a is(not b)", "(is a (not b))")
}

func TestP4_1Arithmetic(t *testing.T) {
	for _, op := range []string{"+", "-"} {
		expect(t, "a"+op+"b", "("+op+" a b)")
		expect(t, "a"+op+"b"+op+"c", "("+op+" ("+op+" a b) c)")
		expect(t, "a"+op+"b * c"+op+"d", "("+op+" ("+op+" a (* b c)) d)")
		expect(t, "a"+op+"(b"+op+"c)", "("+op+" a ("+op+" b c))")
		expect(t, "a"+op+"-b", "("+op+" a (neg b))")
	}
	for _, op := range []string{"*", "//", "%"} {
		expect(t, "a"+op+"b", "("+op+" a b)")
		expect(t, "a"+op+"b"+op+"c", "("+op+" ("+op+" a b) c)")
		expect(t, "a"+op+"b ** c"+op+"d", "("+op+" ("+op+" a (** b c)) d)")
		expect(t, "a"+op+"(b"+op+"c)", "("+op+" a ("+op+" b c))")
		expect(t, "-a"+op+"-b", "("+op+" (neg a) (neg b))")
	}
	expect(t, "a - b + c - d", "(- (+ (- a b) c) d)")
	expect(t, "a * b // c % d", "(% (// (* a b) c) d)")
	expect(t, "a + b * c - d % e", "(- (+ a (* b c)) (% d e))")
	expect(t, "(a + b) * c", "(* (+ a b) c)")
}

func TestP4_1NegAndPower(t *testing.T) {
	expect(t, "-a", "(neg a)")
	expect(t, "---a", "(neg (neg (neg a)))")
	expect(t, "-1", "(neg 1)")
	expect(t, "a ** b", "(** a b)")
	expect(t, "a ** b ** c", "(** a (** b c))")
	expect(t, "-a ** -b ** -c", "(neg (** a (neg (** b (neg c)))))")
	expect(t, "(-a) ** b", "(** (neg a) b)")
	expect(t, "(a ** b) ** c", "(** (** a b) c)")
	expect(t, "a ** b * c", "(* (** a b) c)")
	expect(t, "-a * b", "(* (neg a) b)")
	expect(t, "a.b ** c(d) ** e[f]", "(** (.b a) (** (call c d) (index e f)))")
	expect(t, "-a.b(c)[d]", "(neg (index (call (.b a) c) d))")
}

func TestP4_1Postfix(t *testing.T) {
	expect(t, "a.b", "(.b a)")
	expect(t, "a.b.c", "(.c (.b a))")
	expect(t, "a._", "(._ a)")
	expect(t, "1 .a", "(.a 1)")
	expect(t, "'a'.b", "(.b 'a')")
	expect(t, "f()", "(call f)")
	expect(t, "f(a)", "(call f a)")
	expect(t, "f(a,)", "(call f a)")
	expect(t, "f(a, b, c)", "(call f a b c)")
	expect(t, "f(a, b, c,)", "(call f a b c)")
	expect(t, "f((a, b))", "(call f (tuple a b))")
	expect(t, "f(a)(b)(c)", "(call (call (call f a) b) c)")
	expect(t, "1()", "(call 1)")
	expect(t, "a[b]", "(index a b)")
	expect(t, "a[b][c]", "(index (index a b) c)")
	expect(t, "a[b:c]", "(slice a b c)")
	expect(t, "a[:c]", "(slice a None c)")
	expect(t, "a[b:]", "(slice a b None)")
	expect(t, "a[:]", "(slice a None None)")
	expect(t, "a[None:None]", "(slice a None None)")
	expect(t, "a[b if c else d:e or f]", "(slice a (if b c d) (or e f))")
	expect(t, "a[(b, c)]", "(index a (tuple b c))")
	expect(t, "a[:][:][b].c()", "(call (.c (index (slice (slice a None None) None None) b)))")
	expect(t, "[a][b]", "(index (list a) b)")
	expect(t, "{}[b]", "(index (dict) b)")
	expect(t, "()(a)", "(call (tuple) a)")
	expect(t, "None.a", "(.a None)")
}

func TestP4_1Atoms(t *testing.T) {
	expect(t, "a", "a")
	expect(t, "_9Z", "_9Z")
	expect(t, "None", "None")
	expect(t, "True", "True")
	expect(t, "False", "False")
	expect(t, "9223372036854775807", "9223372036854775807")
	expect(t, "0", "0")
	expect(t, `''`, "''")
	expect(t, `"a'b\n"`, `'a\'b\n'`)
	expect(t, "(a)", "a")
	expect(t, "(((a)))", "a")
	expect(t, "(a if b else c)", "(if a b c)")
	expect(t, "()", "(tuple)")
	expect(t, "(a,)", "(tuple a)")
	expect(t, "(a, b)", "(tuple a b)")
	expect(t, "(a, b,)", "(tuple a b)")
	expect(t, "((a, b), (), (c,), (d))", "(tuple (tuple a b) (tuple) (tuple c) d)")
	expect(t, "((a),)", "(tuple a)")
	expect(t, "((a,))", "(tuple a)")
	expect(t, "[]", "(list)")
	expect(t, "[a]", "(list a)")
	expect(t, "[a,]", "(list a)")
	expect(t, "[a, [b], c,]", "(list a (list b) c)")
	expect(t, "{}", "(dict)")
	expect(t, "{a: b}", "(dict a b)")
	expect(t, "{a: b,}", "(dict a b)")
	expect(t, "{a: b, c: {d: e}, f or g: h if i else j,}", "(dict a b c (dict d e) (or f g) (if h i j))")
}

func TestP4_1KindAndTextAlonePlayAPart(t *testing.T) {
	expectRow(t, row(api.Tok{Kind: api.TokInt, Text: "not", N: -5}), 1, "-5")
	expectRow(t, row(integer(math.MinInt64)), 1, "-9223372036854775808")
	expectRow(t, row(api.Tok{Kind: api.TokStr, Text: "+", N: 7}), 1, "'+'")
	expectRow(t, row(api.Tok{Kind: api.TokName, Text: "a", N: 7}, api.Tok{Kind: api.TokOp, Text: "+", N: 8}, api.Tok{Kind: api.TokName, Text: "None", N: 9}), 3, "(+ a None)")
	long := strings.Repeat("\x00", api.MaxText+1)
	nodes, used, e := read(t, row(str(long)))
	if used != 1 || e != api.OK || nodes[0].S != long || nodes[0].N != 0 {
		t.Error("a str may be as long as any", used, e)
	}
	if nodes, _, _ := read(t, row(api.Tok{Kind: api.TokInt, Text: "a", N: 1})); nodes[0].S != "" {
		t.Error("an int has no S", nodes)
	}
}

func TestP4_1WordsAreNoSignsAndSignsNoWords(t *testing.T) {
	for _, s := range []string{"a", "None", "True", "False", "lambda", "not", "if"} {
		refuseRow(t, row(sign(s), word("a")), 0, api.ErrSyntax)
	}
	for _, s := range []string{"(", "[", "{", "-", "1", "'a'", "", "a b", "é", "a.b", "1a", "not in", " a"} {
		refuseRow(t, row(word(s), word("a"), word(")")), 0, api.ErrSyntax)
	}
	for _, s := range []string{"or", "and", "if", "in", "is", "not in", "is not", "not", "lambda", ""} {
		expectRow(t, row(word("a"), sign(s), word("b"), word("else"), word("c")), 1, "a")
	}
	for _, s := range []string{"+", "-", "*", "//", "%", "**", "==", "<", ".", "(", "[", "not in", "is not", "not  in", ""} {
		expectRow(t, row(word("a"), word(s), word("b")), 1, "a")
	}
	expectRow(t, row(word("a"), word("is"), word("not"), word("b")), 4, "(is not a b)")
	refuseRow(t, row(word("a"), word("is"), sign("not"), word("b")), 2, api.ErrSyntax)
	refuseRow(t, row(word("a"), word("not"), sign("in"), word("b")), 1, api.ErrSyntax)
	refuseRow(t, row(word("a"), sign("."), str("b")), 2, api.ErrSyntax)
	refuseRow(t, row(word("a"), sign("("), word(")")), 2, api.ErrSyntax)
	refuseRow(t, row(word("a"), word("if"), word("b"), sign("else"), word("c")), 3, api.ErrSyntax)
	refuseRow(t, row(word("lambda"), word("a"), word(":"), word("c")), 2, api.ErrSyntax)
}

func TestP4_2OtherKindsBeginAndGoOnNothing(t *testing.T) {
	for _, kind := range []int{0, api.TokLine, api.TokIn, api.TokOut, api.TokEnd, 9, -1, math.MaxInt, math.MinInt} {
		for _, s := range []string{"", "a", "1", "-", "(", "+", "not", "not in", "in", "if", "None", "_"} {
			other := api.Tok{Kind: kind, Text: s}
			refuseRow(t, row(other), 0, api.ErrSyntax)
			refuseRow(t, row(word("a"), sign("+"), other), 2, api.ErrSyntax)
			refuseRow(t, row(sign("("), word("a"), other), 2, api.ErrSyntax)
			refuseRow(t, row(word("a"), word("not"), other), 1, api.ErrSyntax)
			refuseRow(t, row(word("a"), sign("."), other), 2, api.ErrSyntax)
			refuseRow(t, row(word("lambda"), other), 1, api.ErrSyntax)
			expectRow(t, row(word("a"), other, word("b")), 1, "a")
			expectRow(t, row(word("a"), word("is"), word("b"), other), 3, "(is a b)")
		}
	}
}

func TestP4_2WhereAnExprEnds(t *testing.T) {
	for _, s := range []string{"a", "1", "'a'", "None", "(a)", "()", "[a]", "{a: b}", "a.b", "a()", "a[b]", "a[:]", "-a", "not a", "a ** b", "a * b", "a + b", "a < b", "a not in b", "a and b", "a or b", "a if b else c", "lambda: a", "lambda a=1: a"} {
		l := tokens(t, s)
		for _, behind := range []string{"", ")", "]", "}", ",", ":", "=", "+=", "**=", "else", "elif", "a", "1", "'a'", "None", "lambda", "def", "yield", "{", "a not", "as b", ", not", "1 < 2 < 3"} {
			both := append(tokens(t, s), tokens(t, behind)...)
			nodes, used, e := read(t, both)
			alone, _, _ := read(t, l)
			if used != len(l) || e != api.OK || !equal(nodes, alone) {
				t.Errorf("%q, %q behind it: %d tokens, error %d, %v", s, behind, used, e, nodes)
			}
		}
	}
}
