package express_test

import (
	"strings"
	"testing"

	"krait/api"
	"krait/express"
	"krait/tree"
)

// deepens are parts whose Depth is one more than that of the X in them; the $ stands where the token behind the part would.
func deepens() []string {
	return []string{
		"-X$", "not X$", "[X]$", "[1, X,]$", "(X,)$", "(1, X)$", "(X, 1,)$", "{X: 1}$", "{1: X}$", "{1: 2, X: 3,}$",
		"(X) + 1$", "1 + X$", "1 + (X)$", "1 - X$", "(X) * 1$", "1 // X$", "1 % X$", "(X) ** 1$", "1 ** X$",
		"(X) < 1$", "1 < X$", "1 not in X$", "(X) is not 1$", "(X) and 1$", "1 and X$", "1 or X$", "(X) or 1$",
		"(X) if 1 else 2$", "1 if X else 2$", "1 if 2 else X$",
		"(X)()$", "f(X)$", "f(1, X,)$", "(X).a$", "(X)[1]$", "a[X]$", "(X)[:]$", "(X)[1:2]$", "a[X:]$", "a[:X]$", "a[1:X]$",
		"lambda: X$", "lambda a=1: X$", "lambda a=X$: 1", "lambda a, b=X$, c=1: 2",
	}
}

func TestP4_2Depth(t *testing.T) {
	for _, s := range deepens() {
		whole := strings.ReplaceAll(s, "$", "")
		// Of parameters the lambda is one deeper than what the $ stands behind.
		inner := api.MaxNest - 1
		if strings.HasPrefix(s, "lambda") && !strings.HasSuffix(s, "$") {
			inner--
		}
		fits := strings.ReplaceAll(whole, "X", deep(inner))
		nodes, used, e := read(t, tokens(t, fits))
		if e != api.OK || used != len(tokens(t, fits)) || tree.Depth(nodes, len(nodes)-1) != api.MaxNest {
			t.Errorf("%s: %d tokens, error %d, Depth %d", whole, used, e, tree.Depth(nodes, len(nodes)-1))
		}
		refuseCaret(t, strings.ReplaceAll(s, "X", deep(api.MaxNest)), api.ErrDepth)
	}
}

func TestP4_2DepthGoesAheadOfWhatIsWrongWithTheToken(t *testing.T) {
	for _, s := range deepens() {
		ahead, _, _ := strings.Cut(strings.ReplaceAll(s, "X", deep(api.MaxNest)), "$")
		for _, behind := range []string{"", " )", " ]", " }", " :", " ,", " a", " 1", " =", " else", " not", " not a", " pass", " +=", " ="} {
			refuseCaret(t, ahead+"$"+behind, api.ErrDepth)
			refuseCaret(t, "["+ahead+"$"+behind, api.ErrDepth)
			refuseCaret(t, "f(1, "+ahead+"$"+behind, api.ErrDepth)
			refuseCaret(t, "a[("+ahead+"$"+behind, api.ErrDepth)
			refuseCaret(t, "{(lambda b=("+ahead+"$"+behind, api.ErrDepth)
		}
	}
}

func TestP4_2DepthGoesAheadOfAComparisonBehindAComparison(t *testing.T) {
	of := func(s string, depth int) string { return strings.ReplaceAll(s, "X", deep(depth)) }
	for _, s := range []string{"1 < X", "not 1 < X", "a and 1 < X", "a or 1 < X", "a if b else 1 < X", "lambda: 1 < X", "lambda a=1 < X", "not not not a and 1 is not X"} {
		for _, behind := range []string{" < b", " not in b", " is not b", " in", " not b", " not"} {
			refuseCaret(t, of(s, api.MaxNest)+"$"+behind, api.ErrDepth)
			refuseCaret(t, of(s, api.MaxNest-5)+"$"+behind, api.ErrSyntax)
			if s != "1 < X" {
				refuseCaret(t, of(s, api.MaxNest-1)+"$"+behind, api.ErrDepth)
			}
		}
	}
}

func TestP4_2WhatIsNotAddedIsNotTooDeep(t *testing.T) {
	open := strings.Repeat("[", api.MaxNest+1)
	refuse(t, open, api.MaxNest+1, api.ErrSyntax)
	refuse(t, open+")", api.MaxNest+1, api.ErrSyntax)
	refuse(t, open+strings.Repeat("]", api.MaxNest), 2*api.MaxNest+1, api.ErrSyntax)
	refuse(t, open+strings.Repeat("]", api.MaxNest)+")", 2*api.MaxNest+1, api.ErrSyntax)
	refuse(t, open+strings.Repeat("]", api.MaxNest+1), 2*api.MaxNest+2, api.ErrDepth)
	refuse(t, open+strings.Repeat("]", api.MaxNest+1)+")", 2*api.MaxNest+2, api.ErrDepth)
	refuseAll(t, strings.Repeat("-", 100)+"$", strings.Repeat("not ", 100)+"$)", strings.Repeat("lambda: ", 100)+"$,", strings.Repeat("a ** ", 100)+"$", strings.Repeat("a if b else ", 100)+"$")
	refuseAll(t, "["+deep(api.MaxNest)+"$", "["+deep(api.MaxNest)+"$)", "f("+deep(api.MaxNest)+",$", "f("+deep(api.MaxNest)+"$:", "a["+deep(api.MaxNest)+":$", "1 if "+deep(api.MaxNest)+"$")
}

func TestP4_2RowsOfOperatorsAreDeep(t *testing.T) {
	for _, op := range []string{"+", "*", "or", "and"} {
		fits := "a" + strings.Repeat(" "+op+" a", api.MaxNest-1)
		expect(t, fits, strings.Repeat("("+op+" ", api.MaxNest-1)+"a"+strings.Repeat(" a)", api.MaxNest-1))
		refuseCaret(t, fits+" "+op+" a$", api.ErrDepth)
		refuseCaret(t, fits+" "+op+" a$ "+op+" a "+op+" a )", api.ErrDepth)
		refuseCaret(t, fits+" "+op+" a.b(c)$ "+op+" a", api.ErrDepth)
	}
	for _, step := range []string{".a", "()", "[1]", "[:]", "(1, 2)"} {
		refuseCaret(t, "a"+strings.Repeat(step, api.MaxNest)+"$"+step, api.ErrDepth)
		fits := tokens(t, "a"+strings.Repeat(step, api.MaxNest-1))
		if _, used, e := read(t, fits); used != len(fits) || e != api.OK {
			t.Errorf("%s: %d tokens, error %d", step, used, e)
		}
	}
	expect(t, strings.Repeat("-", api.MaxNest-1)+"a", strings.Repeat("(neg ", api.MaxNest-1)+"a"+strings.Repeat(")", api.MaxNest-1))
	refuseCaret(t, strings.Repeat("-", api.MaxNest)+"a$", api.ErrDepth)
	refuseCaret(t, strings.Repeat("not ", 2*api.MaxNest)+"a$ or b", api.ErrDepth)
	refuseCaret(t, "a"+strings.Repeat(" ** a", api.MaxNest)+"$ * b", api.ErrDepth)
}

func TestP4_2BracketsHaveNoDepth(t *testing.T) {
	expect(t, strings.Repeat("(", 1000)+"a"+strings.Repeat(")", 1000), "a")
	expect(t, strings.Repeat("(", 1000)+deep(2)+strings.Repeat(")", 1000), "(list x)")
}

func TestP4_2ManyItemsHaveNoDepth(t *testing.T) {
	const many = 1 << 12
	for _, pair := range []string{"[]", "()"} {
		nodes, used, e := read(t, tokens(t, pair[:1]+strings.Repeat("a, ", many)+pair[1:]))
		if e != api.OK || used != 2*many+2 || len(nodes) != many+1 || len(nodes[many].Kids) != many {
			t.Error(pair, used, e, len(nodes))
		}
	}
	nodes, used, e := read(t, tokens(t, "{"+strings.Repeat("a: b, ", many)+"}"))
	if e != api.OK || used != 4*many+2 || len(nodes) != 2*many+1 {
		t.Error(used, e, len(nodes))
	}
}

func TestP1DeepAndLong(t *testing.T) {
	const deepest = 1 << 16
	for _, s := range []string{"(", "[", "{", "{a:", "-", "not ", "lambda:", "lambda a=", "f(", "a[", "a[:", "a**", "a if b else ", "a+(", "a or not(a,", "-a**-a(["} {
		l := tokens(t, strings.Repeat(s, deepest))
		refuseRow(t, l, len(l), api.ErrSyntax)
	}
	expect(t, strings.Repeat("(", deepest)+"a"+strings.Repeat(")", deepest), "a")
	refuse(t, strings.Repeat("(", deepest)+"a"+strings.Repeat(")", deepest-1)+"]", 2*deepest, api.ErrSyntax)
	refuseCaret(t, strings.Repeat("-", deepest)+"a$", api.ErrDepth)
	refuse(t, strings.Repeat("[", deepest)+strings.Repeat("]", deepest), deepest+api.MaxNest+1, api.ErrDepth)
}

func TestP4_2WhatWasAddedStays(t *testing.T) {
	var b tree.Builder
	first := b.Add(api.OName, 0, "first", 0)
	node, used, e := express.Parse(&b, tokens(t, "a + b"))
	if node != 3 || used != 3 || e != api.OK {
		t.Error(node, used, e)
	}
	if node, used, e := express.Parse(&b, tokens(t, "c * d + )")); node != -1 || used != 4 || e != api.ErrSyntax {
		t.Error(node, used, e)
	}
	last, used, e := express.Parse(&b, tokens(t, "e"))
	if last != 7 || used != 1 || e != api.OK {
		t.Error(last, used, e)
	}
	b.Add(api.OTuple, 0, "", 0, first, node, 4, 5, 6, last)
	all := b.Tree()
	if got := told(all, len(all)-1, false); got != "(tuple first (+ a b) c d (* c d) e)" {
		t.Error(got)
	}
}

func TestANilBuilder(t *testing.T) {
	if node, used, e := express.Parse(nil, tokens(t, "a + b c")); node != -1 || used != 3 || e != api.OK {
		t.Error(node, used, e)
	}
	if node, used, e := express.Parse(nil, tokens(t, "a + )")); node != -1 || used != 2 || e != api.ErrSyntax {
		t.Error(node, used, e)
	}
	if node, used, e := express.Parse(nil, tokens(t, "-"+deep(api.MaxNest))); node != -1 || used != 2*api.MaxNest || e != api.ErrDepth {
		t.Error(node, used, e)
	}
}
