package express_test

import (
	"strings"
	"testing"

	"krait/api"
)

// refuseAll: each line must be a wrong one where its $ stands.
func refuseAll(t *testing.T, lines ...string) {
	t.Helper()
	for _, s := range lines {
		refuseCaret(t, s, api.ErrSyntax)
	}
}

func TestP4_2WhereAPartMustStand(t *testing.T) {
	refuseAll(t, "$", "$)", "$,", "$:", "$= a", "$+ a", "$* a", "$** a", "$== a", "$. a", "$and a", "$or a", "$in a", "$is a", "$if a else b", "$else", "$pass", "$def", "$yield a", "$}")
	refuseAll(t, "a +$", "a +$ + b", "a *$ )", "a **$ ** b", "a //$", "a %$", "-$", "-$ + a", "--$", "a <$", "a ==$ == b", "a is$", "a is not$", "a in$", "a not in$", "a and$", "a or$ or b", "not$", "not not$ )", "a and$ and b")
	refuseAll(t, "a if$", "a if$ else b", "a if b else$", "a if b else$ else c", "lambda:$", "lambda a:$ ,", "lambda a=$: b", "lambda a=$, b: c")
	refuseAll(t, "($", "($,)", "($:)", "(a,$,)", "(a, b,$ ,)", "($]", "(a,$", "(a,$]", "[$", "[$,]", "[a,$,]", "[$)", "[a,$")
	refuseAll(t, "{$", "{$,}", "{$:a}", "{a:$}", "{a:$,}", "{a: b,$,}", "{a: b,$: c}", "{a: b,$")
	refuseAll(t, "f($", "f($,)", "f(a,$,)", "f($]", "f($=a)", "f(a,$", "a[$", "a[$]", "a[$,]", "a[:$", "a[b:$", "a[b:$:]", "a[:$:]", "a[b:$,]")
	refuseAll(t, "a.$", "a.$1", "a.$'b'", "a.$(b)", "a.$None", "a.$if", "a.$not", "a.$.b", "a.b.$", "a.$lambda")
}

func TestP4_2PartsThatAreTooLoose(t *testing.T) {
	refuseAll(t, "not $lambda: a", "-$lambda: a", "a + $lambda: b", "a or $lambda: b", "a and $lambda: b", "a < $lambda: b", "a ** $lambda: b", "a if $lambda: b else c", "a not in $lambda: b")
	refuseAll(t, "-$not a", "a + $not b", "a * $not b", "a ** $not b", "a < $not b", "a in $not b", "a is not $not b", "a not in $not b", "a == -$not b")
	refuseAll(t, "a if b $if c else d else e", "[a if b $if c else d]")
}

func TestP4_2WhatMustStandThere(t *testing.T) {
	refuseAll(t, "(a$", "(a$ b)", "(a$]", "(a$}", "(a$:", "(a$= b)", "(a, b$ c)", "(a, b$]", "(a, b$", "(a if b else c$ d)")
	refuseAll(t, "[a$", "[a$ b]", "[a$)", "[a$}", "[a$: b]", "[a, b$ c]", "[a, b$)", "[a$ for b in c]")
	refuseAll(t, "{a$", "{a$}", "{a$, b}", "{a$ b}", "{a$]", "{a: b$", "{a: b$ c", "{a: b$: c}", "{a: b$)", "{a: b$]", "{a: b, c$}", "{a: b, c$, d: e}")
	refuseAll(t, "f(a$", "f(a$ b)", "f(a$]", "f(a$= b)", "f(a$: b)", "f(a, b$ c)", "f(a, b$:", "f(a$ for b in c)")
	refuseAll(t, "a[b$", "a[b$ c]", "a[b$, c]", "a[b$)", "a[b:c$", "a[b:c$:d]", "a[b:c$)", "a[b:c$, d]", "a[:b$ c]", "a[:b$:]", "a[b$,]")
	refuseAll(t, "a if b$", "a if b$, c", "a if b$ : c", "(a if b$)", "a if b$ elif c", "a if b$ if c")
	refuseAll(t, "lambda a$", "lambda a$ b: c", "lambda a$ 1: c", "lambda a$): c", "lambda a=1$", "lambda a=1$ b: c", "lambda a$.b: c", "lambda a$ in b: c", "lambda a$ == b: c", "lambda a=1$ = 2: b")
}

func TestP4_2Parameters(t *testing.T) {
	refuseAll(t, "lambda$", "lambda $1: a", "lambda $'a': a", "lambda $(a): a", "lambda $,: a", "lambda $, a: a", "lambda a,$: b", "lambda a,$", "lambda a,$,b: c", "lambda a=1,$: b", "lambda a, $1: b", "lambda $None: a", "lambda $if: a", "lambda a, $lambda: a", "lambda $*a: a", "lambda $=1: a", "lambda $not: a")
	refuseAll(t, "lambda a=1, $b: c", "lambda a=1, $b, c: d", "lambda a=1, $b, c=2: d", "lambda a, b=1, c=2, $d: e", "lambda a=1, $b", "lambda a=1, $b b", "lambda a=1, $b, 1", "lambda a=1, $b)", "lambda a=1, $b == 2: c", "lambda a=1, b=lambda c: 1, $d: e", "[lambda a=1, $b]", "lambda a=1, $a: a")
	refuseAll(t, "lambda a=1, $2: b", "lambda a=1, $None: b", "lambda a=1, $, b: c", "lambda a=1, $")
	expect(t, "lambda a=lambda b=1: c, d=2: e", "(lambda (=a (lambda (=b 1) c)) (=d 2) e)")
	expect(t, "lambda a=1: lambda b: c", "(lambda (=a 1) (lambda (=b) c))")
	expect(t, "lambda a, a, a=1, a=2: a", "(lambda (=a) (=a) (=a 1) (=a 2) a)")
}

// within are lines in which a text is an expression, each in another place; what stands behind it there, ends none.
func within(s string) []string {
	return []string{
		s, "(" + s + ")", "(" + s + ",)", "(x, " + s + ")", "[" + s + "]", "[x, " + s + ",]", "{" + s + ": x}", "{x: " + s + "}",
		"f(" + s + ")", "f(x, " + s + ")", "x[" + s + "]", "x[" + s + ":]", "x[:" + s + "]",
		"lambda: " + s, "lambda x=" + s + ": y", "lambda x=" + s + ", y=1: z", "x if y else " + s,
	}
}

func TestP4_2AComparisonBehindAComparison(t *testing.T) {
	ops := []string{"==", "!=", "<", "<=", ">", ">=", "in", "not in", "is", "is not"}
	for _, first := range ops {
		for _, second := range ops {
			chain := "a " + first + " b $" + second
			refuseAll(t, within(chain+" c")...)
			refuseAll(t, within("not "+chain+" c if d else e")...)
			refuseAll(t, chain, chain+" )", "not "+chain+" c", "d and "+chain+" c", "d or not "+chain+" c", "d if "+chain+" c else e", chain+" c and d", chain+" c or d", "a + "+chain+" -c")
		}
	}
}

func TestP4_2ANotThatIsNoOperator(t *testing.T) {
	for _, s := range []string{"a", "1", "None", "(a)", "[a]", "a.b", "a()", "a[b]", "-a", "not a", "a ** b", "a * b", "a + b", "a < b", "a not in b", "a is not b", "a and b", "a or b", "a if b else c", "lambda: a", "lambda a=1: a"} {
		for _, behind := range []string{"", " b", " not in b", " is b", " )", " ,", " 1 in b", " (in b)", " + b"} {
			refuseAll(t, within(s+" $not"+behind)...)
		}
	}
	refuseAll(t, "a $not is b", "a < b $not in c", "a $not = b", "a if b $not else c", "not a $not a", "a.$not in b", "lambda a $not in b: c", "{a: b $not: c}", "(a, $in b)", "a.b $not.in")
	expect(t, "a not in b", "(not in a b)")
	expect(t, "(not a) not in b", "(not in (not a) b)")
	expectRow(t, tokens(t, "a b not c"), 1, "a")
}

func TestP4_2TheFirstWrongTokenIsTold(t *testing.T) {
	refuseAll(t, "[a $b, c d]", "{a $, b: , c}", "f(a, $* b, ** c)", "a[$] [ ]", "a if b $, c if", "lambda a $( b ): 1 +", "a < b $< c <")
	refuseAll(t, "((((a$", "[{(a$: b)]", "[(a, b), $+ c", "f(g(h($+)))")
}

func TestP4_2NoTokens(t *testing.T) {
	refuseRow(t, nil, 0, api.ErrSyntax)
	refuseRow(t, []api.Tok{}, 0, api.ErrSyntax)
	refuseRow(t, row(sign("(")), 1, api.ErrSyntax)
	refuseRow(t, row(word("a"), sign("+"), sign("("), sign("(")), 4, api.ErrSyntax)
	refuse(t, strings.Repeat("(", 1000), 1000, api.ErrSyntax)
}
