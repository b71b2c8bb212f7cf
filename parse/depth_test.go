package parse_test

import (
	"strings"
	"testing"

	"krait/api"
	"krait/parse"
	"krait/tree"
)

// nest is so many blocks within one another, each with a head of these in turn, and in the last one a statement.
func nest(blocks int, statement string, heads ...string) string {
	var s strings.Builder
	for i := range blocks {
		s.WriteString(strings.Repeat(" ", i) + heads[i%len(heads)] + ":\n")
	}
	return s.String() + strings.Repeat(" ", blocks) + statement + "\n"
}

func TestP5_2DepthOfBlocks(t *testing.T) {
	for _, heads := range [][]string{{"if a"}, {"while a"}, {"for a in b"}, {"def f()"}, {"class A"}, {"if a", "def f(b)", "while c", "class A(d)", "for e in f"}} {
		s := nest(api.MaxNest, "pass", heads...)
		tr, place, e := parse.Module(s)
		holdTree(t, s, tr, place, e)
		if e != api.OK {
			t.Errorf("%q: %d at %d", heads, e, place)
		}
		for _, statement := range []string{"$pass", "$pass pass", "$1 = 2", "$else", "$- =", "$if a:\n" + strings.Repeat(" ", 60) + "b", "$break\n\nif"} {
			refuse(t, nest(api.MaxNest+1, statement, heads...), api.ErrDepth)
		}
	}
}

func TestP5_2DepthIsHeldAgainstBlocksAlone(t *testing.T) {
	indent := strings.Repeat(" ", api.MaxNest)
	// The block must begin there.
	refuse(t, nest(api.MaxNest, "if a: $pass", "if a"), api.ErrSyntax)
	refuse(t, strings.TrimSuffix(nest(api.MaxNest, "if a:\n$", "if a"), "\n"), api.ErrSyntax)
	refuse(t, nest(api.MaxNest, "if a $b:\n"+indent+"  c", "if a"), api.ErrSyntax)
	// Blocks that have ended play no part.
	many := strings.Repeat(nest(api.MaxNest, "pass", "if a"), 3)
	if _, place, e := parse.Module(many + strings.Repeat("if a:\n b\n", 100)); e != api.OK {
		t.Error(place, e)
	}
	refuse(t, many+nest(api.MaxNest+1, "$pass", "while a"), api.ErrDepth)
}

func TestP5_2DepthOfEachPlaceOfABlock(t *testing.T) {
	pad := strings.Repeat(" ", api.MaxNest-1)
	for _, s := range []string{"if a:\n @\n", "if a:\n b\nelse:\n @\n", "while a:\n @\n", "for a in b:\n @\n", "def f():\n @\n", "class A:\n @\n", "try:\n @\nexcept:\n b\n", "try:\n a\nexcept:\n @\n", "try:\n a\nexcept b as c:\n @\n", "try:\n a\nfinally:\n @\n"} {
		in := func(inner string) string {
			all := strings.ReplaceAll(s, "@", inner)
			return nest(api.MaxNest-1, strings.ReplaceAll(strings.TrimSuffix(all, "\n"), "\n", "\n"+pad), "if x")
		}
		tr, place, e := parse.Module(in("pass"))
		holdTree(t, s, tr, place, e)
		if e != api.OK {
			t.Errorf("%q: %d at %d", s, e, place)
		}
		refuse(t, in("if y:\n  $z"), api.ErrDepth)
	}
}

// elifs is an if with so many elifs, with blocks of that statement.
func elifs(many int, statement string) string {
	return "if a:\n " + statement + "\n" + strings.Repeat("elif a:\n "+statement+"\n", many)
}

func TestP5_2DepthOfElifs(t *testing.T) {
	// The block of the last elif lies within those of all elifs.
	s := elifs(api.MaxNest-1, "pass")
	for _, behind := range []string{"", "else:\n pass\n", "pass\n"} {
		tr, place, e := parse.Module(s + behind)
		holdTree(t, s, tr, place, e)
		if e != api.OK {
			t.Error(behind, place, e)
		}
	}
	refuse(t, s+"elif a:\n $pass\n", api.ErrDepth)
	refuse(t, s+"elif a:\n $pass\nelif b c", api.ErrDepth)
	refuse(t, s+"elif a:\n $1 = 2", api.ErrDepth)
	refuse(t, s+"elif a $b:\n pass", api.ErrSyntax)
	refuse(t, s+"else:\n if b:\n  $pass", api.ErrDepth)
	refuse(t, elifs(api.MaxNest-2, "pass")+"elif a:\n if b:\n  $pass", api.ErrDepth)
	inner := strings.ReplaceAll(strings.TrimSuffix(elifs(1, "pass"), "\n"), "\n", "\n"+strings.Repeat(" ", api.MaxNest-1))
	at := strings.LastIndex(inner, "pass")
	refuse(t, nest(api.MaxNest-1, inner[:at]+"$"+inner[at:], "while a"), api.ErrDepth)
	if _, place, e := parse.Module(nest(api.MaxNest-2, strings.ReplaceAll(strings.TrimSuffix(elifs(1, "pass"), "\n"), "\n", "\n"+strings.Repeat(" ", api.MaxNest-2)), "while a")); e != api.OK {
		t.Error(place, e)
	}
}

func TestP5_2DepthOfExprs(t *testing.T) {
	places := []string{
		"X$\n", "x = X$\n", "x += X$", "return X$", "raise X$", "yield X$", "assert X$", "assert X$, a", "assert a, X$", "del x[X]$",
		"if X$:\n  pass", "while X$:\n  pass", "if a:\n  b\nelif X$:\n  c", "for x[X] $in a:\n  b", "for a in X$:\n  b", "class A(X$):\n  pass", "class A(a, X$, b):\n  pass",
		"try:\n  a\nexcept X$:\n  b", "try:\n  a\nexcept X $as b:\n  c", "def f(a=X$):\n  pass", "def f(a, b=X$, c=1):\n  pass",
	}
	for _, s := range places {
		inner := api.MaxNest
		if strings.Contains(s, "[X]") {
			inner--
		}
		fits := strings.ReplaceAll(strings.ReplaceAll(s, "X", deep(inner)), "$", "")
		tr, place, e := parse.Module(fits)
		holdTree(t, fits, tr, place, e)
		if e != api.OK {
			t.Errorf("%q: %d at %d", s, e, place)
		}
		refuse(t, strings.ReplaceAll(s, "X", deep(inner+1)), api.ErrDepth)
		ahead, _, _ := strings.Cut(s, "$")
		closer := strings.Repeat(")", strings.Count(ahead, "("))
		for _, behind := range []string{"a", "=", "1", "pass", "+=", "else", "not a"} {
			refuse(t, strings.ReplaceAll(ahead, "X", deep(inner+1))+" $"+behind+closer, api.ErrDepth)
		}
	}
}

func TestP5_2DepthGoesAheadOfTargets(t *testing.T) {
	tooDeep := deep(api.MaxNest + 1)
	for _, s := range []string{tooDeep + " $= 1", tooDeep + " $+= 1", "del " + tooDeep + "$", "for " + tooDeep + " $in a" + body, "for " + tooDeep + "$", "for " + tooDeep + " $, b in a" + body, "(a, " + tooDeep + "$) = 1", "del " + tooDeep + " $a"} {
		refuse(t, s, api.ErrDepth)
	}
	refuse(t, "$"+deep(api.MaxNest)+" = 1", api.ErrTarget)
}

func TestP5_1HowDeepAnOParamIsIsNotAsked(t *testing.T) {
	s := "def f(a, b=" + deep(api.MaxNest) + ", c=1):\n  pass\n"
	tr, place, e := parse.Module(s)
	holdTree(t, s, tr, place, e)
	deepest := 0
	for i, n := range tr {
		if n.Op == api.OParam {
			deepest = max(deepest, tree.Depth(tr, i))
		}
	}
	if e != api.OK || deepest != api.MaxNest+1 {
		t.Error(place, e, deepest)
	}
	refuse(t, "x = lambda a, b="+deep(api.MaxNest)+"$, c=1: d", api.ErrDepth)
	refuse(t, "x = lambda a, b="+deep(api.MaxNest-1)+", c=1: d$", api.ErrDepth)
	refuse(t, "def f(a=lambda b="+deep(api.MaxNest-1)+": c$):\n  pass", api.ErrDepth)
}
