package parse_test

import (
	"testing"

	"krait/api"
)

// noTargets are expressions that are none, a $ at the At of each.
func noTargets() []string {
	return []string{
		"$1", "$'a'", "$None", "$True", "$()", "$[a]", "$[a, b]", "$[]", "${a: b}", "$f()", "$f(a)", "$f(a).b()", "$a[:]", "$a[b:c]", "$-a", "$not a",
		"$a + b", "$a ** b", "$a < b", "$a is not b", "$a and b", "$a or b", "$a if b else c", "$lambda: a", "$lambda a=1: a",
		"($a + b)", "(($1))", "($a)()", "(($a) < b)", "(($[a]))",
		"$(a, 1)", "$(a, f())", "$(1,)", "$(a, (b, c))", "$((a,),)", "$(a, [b])", "$(a, b.c, d[:])", "($(a, 1))", "$(a, -b)", "$((a + b), c)", "$(a, ())",
	}
}

// tuples are wide targets that are no targets.
func tuples() []string {
	return []string{"$(a,)", "$(a, b)", "$(a.b, c[d], e)", "($(a, b))", "$((a), b)"}
}

func TestP5_2TargetsOfAssign(t *testing.T) {
	for _, s := range noTargets() {
		for _, behind := range []string{" = 1", " =", " = = 1", " = 1 2", " = pass", " =\n  x", "= 1 = 2"} {
			refuse(t, s+behind, api.ErrTarget)
			refuse(t, "if a:\n  x = 1\n  "+s+behind, api.ErrTarget)
		}
	}
}

func TestP5_2TargetsOfAug(t *testing.T) {
	for _, op := range []string{"+=", "-=", "*=", "//=", "%=", "**="} {
		for _, s := range append(noTargets(), tuples()...) {
			refuse(t, s+" "+op+" 1", api.ErrTarget)
			refuse(t, s+op, api.ErrTarget)
			refuse(t, s+op+op, api.ErrTarget)
		}
	}
}

func TestP5_2TargetsOfDel(t *testing.T) {
	for _, s := range append(noTargets(), tuples()...) {
		// What follows the expr is looked at behind it.
		for _, behind := range []string{"", " # x", " = 1", ", a", " pass", " 1", " del x", ": y", " else b"} {
			refuse(t, "del "+s+behind, api.ErrTarget)
		}
	}
}

func TestP5_2TargetsOfFor(t *testing.T) {
	for _, s := range noTargets() {
		for _, behind := range []string{" in x" + body, " in", " in = x" + body, " in x", "", " in x:", " in x: y", " in x y", " in if"} {
			refuse(t, "for "+s+behind, api.ErrTarget)
		}
	}
	refuse(t, "for ($a in b) in c"+body, api.ErrTarget)
}

func TestP5_2WhatIsNotUsedOfForGoesAhead(t *testing.T) {
	for _, s := range []string{"1", "a", "f()", "(1, a)", "a.b", "[a]"} {
		refuseAll(t, "for "+s+" $, b in c"+body, "for "+s+" $b in c"+body, "for "+s+" $: in c"+body, "for "+s+"$:\n  pass", "for "+s+" $= 1", "for "+s+" $+= 1 in c"+body, "for "+s+" $as b in c"+body)
	}
	refuseAll(t, "for a$\n", "for a.b$", "for a[b in c]$", "for (a, b)$\n  c", "for a in$", "for (a in b $c) in d"+body)
}

func TestP5_2OnlyWhatIsSetMustBeATarget(t *testing.T) {
	for s, want := range map[string]string{"1": "1", "()": "tuple", "f()": "(call f)", "(1, 2)": "(tuple 1 2)", "-a": "(neg a)"} {
		expect(t, "x = "+s, "(= x "+want+")")
		expect(t, "x += "+s, "(aug + x "+want+")")
		expect(t, "for x in "+s+":\n  pass\n", "(for x "+want+" (block (pass)))")
		expect(t, s, "(expr "+want+")")
		refuse(t, s+" $x", api.ErrSyntax)
		refuse(t, s+" $: x", api.ErrSyntax)
	}
}
