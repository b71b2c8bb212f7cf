package parse_test

import (
	"testing"

	"krait/api"
	"krait/layout"
	"krait/parse"
)

// body is a block of one statement, as it stands behind what has it.
const body = ":\n  pass\n"

func TestP5_2WhatBeginsNoStatement(t *testing.T) {
	for _, s := range []string{"and", "or", "in", "is", "else:", "elif a:", "except:", "finally:", "as", "=", "+= 1", "+", ":", ",", ".a", "*"} {
		refuseAll(t, "$"+s, "pass\n$"+s, "x = 1\nif a:\n  b\n  $"+s, "if a:\n  $"+s, "while a:\n  b\nc\n$"+s)
	}
	refuseAll(t, "while a"+body+"$else"+body, "for a in b"+body+"$else"+body, "def f()"+body+"$else"+body, "$else"+body, "$elif a"+body, "$except"+body, "$finally"+body)
}

func TestP5_2BlocksThatNothingBegins(t *testing.T) {
	refuseAll(t, " $pass", "pass\n  $pass\n", "if a:\n  b\n    $c\n", "if a:\n  b\nelse:\n  c\n    $d\n", "x = 1\n $y\n", "if a: # b\n  c\n   $d")
	refuseAll(t, "if a:\n$pass", "if a:\n$", "while a:\n$", "if a:\n  b\nelse:\n$c", "if a:\n  while b:\n  $c", "if a:\n  while b:\n$c", "def f():\n\n# x\n$", "try:\n$except:\n  a")
}

func TestP5_2ALineMustEnd(t *testing.T) {
	refuseAll(t, "pass $x", "break $1", "continue $()", "pass $= 1", "pass $: a", "pass $pass")
	refuseAll(t, "return x $y", "raise x $, y", "raise a $from b", "return a $= b", "return a $: b", "raise a $raise")
	refuseAll(t, "global x $y", "global x $= 1", "nonlocal x $(y)", "nonlocal x $.y", "global x $: y")
	refuseAll(t, "del x $, y", "del x $= y", "del x $y", "assert a $b", "assert a, b $, c", "assert a $= b", "yield a $, b", "yield a $= b")
	refuseAll(t, "x $y", "x $, y", "x $: y", "1 $2", "x = 1 $2", "x = 1 $= 2", "x = 1 $, 2", "x += 1 $+= 2", "x = 1 $+= 2", "x += 1 $= 2", "x $, y = 1, 2", "x = y $: z", "x = yes $pass", "(x) $y", "f() $f()", "x $def", "x $as y", "x $else y", "x $for y in z")
}

func TestP5_2AnExprMustStandThere(t *testing.T) {
	refuseAll(t, "x =$", "x = $= 1", "x = $pass", "x +=$", "x += $* 1", "x = $yield y", "x -= $in", "return $= 1", "raise $in", "return $pass", "raise $,", "return $:", "return $return")
	refuseAll(t, "del$", "del $, x", "assert$", "assert $, x", "assert x,$", "assert x, $, y", "yield$", "yield $yield x", "yield $= x")
	refuseAll(t, "if$", "if $:", "if $: a", "while$", "while $:\n  a", "if a"+body+"elif $"+body, "for x in$", "for x in $"+body, "for $"+body, "for$", "for $in x"+body)
	refuseAll(t, "class A($, B)"+body, "class A(B,$,)"+body, "def f(a=$)"+body, "def f(a=$, b)"+body, "try"+body+"except $as a"+body, "try"+body+"except $,"+body, "try"+body+"except$")
}

func TestP5_2WhatIsWrongWithinAnExpr(t *testing.T) {
	for _, s := range []string{"a < b $< c", "a $not b", "(a $b)", "[a, $* b]", "{a$}", "f(a $b)", "a.$1", "lambda a=1, $b: c", "a[$]", "a ** $not b", "a + $pass"} {
		refuseAll(t, s, "x = "+s, "x += "+s, "return "+s, "raise "+s, "yield "+s, "assert "+s, "assert x, "+s, "class A(x, "+s+")"+body, "def f(a, b="+s+")"+body)
		refuseAll(t, "if "+s+body, "while "+s+body, "if a"+body+"elif "+s+body, "for x in "+s+body, "try"+body+"except "+s+body, "if a:\n  while b:\n    c = "+s)
	}
	refuseAll(t, "del a < b $< c", "for a $not b in c"+body, "for [a $b] in c"+body, "for a if b $in c"+body, "for a if b $if d in c"+body, "for -$in a"+body, "for not $in a"+body)
}

func TestP5_2Names(t *testing.T) {
	for _, s := range []string{"1", "'a'", "(a)", "if", "None", "True", "global", "lambda", "not", "=", ",", ".", "*", "-a"} {
		refuseAll(t, "global $"+s, "nonlocal $"+s, "global a, $"+s, "def $"+s+"(a)"+body, "class $"+s+body, "def f($"+s+")"+body, "def f(a, $"+s+")"+body, "def f(a=1, $"+s+")"+body, "try"+body+"except a as $"+s+body)
	}
	refuseAll(t, "global$", "global a,$", "nonlocal$", "nonlocal a,$\npass", "global a$.b", "global a $b", "global a, b $= c")
	refuseAll(t, "try"+body+"except a as $"+body, "try"+body+"except a as b$.c"+body, "try"+body+"except a as b $as c"+body, "try"+body+"except $as b"+body)
	refuseAll(t, "def f$", "def f$:\n  a", "class A$", "class A$.b:\n  pass", "def$", "class$", "class $:\n  a", "def $():\n  a")
}

func TestP5_2Parameters(t *testing.T) {
	refuseAll(t, "def f(a,$)"+body, "def f(a, b,$)"+body, "def f(a=1,$)"+body, "def f($,)"+body, "def f(a,$,b)"+body, "def f(a $b)"+body, "def f(a$.b)"+body, "def f(a$: b)"+body, "def f(a=1 $b)"+body, "def f(a=1 $= 2)"+body, "def f(a$[0])"+body, "def f(a $in b)"+body, "def f(a$(b))"+body)
	refuseAll(t, "def f(a=1, $b)"+body, "def f(a=1, $b, c)"+body, "def f(a=1, $b, c=1)"+body, "def f(a, b=1, c=2, $d)"+body, "def f(a=1, $b b)"+body, "def f(a=1, $a)"+body, "def f(a=lambda b: 1, $c)"+body, "def f(a=1, $b == 2)"+body, "def f(a=1, $b, 1)"+body)
	refuseAll(t, "def f()$", "def f() $- a"+body, "def f() $= 1", "def f(a) $pass", "def f $a"+body, "def f$[a]"+body, "def f()$()"+body)
}

func TestP5_2Classes(t *testing.T) {
	refuseAll(t, "class A($,)"+body, "class A(B $C)"+body, "class A(B$=C)"+body, "class A(B,$,)"+body, "class A(B$: C)"+body, "class A(B $for C)"+body)
	refuseAll(t, "class A()$", "class A()$()"+body, "class A(B)$.C"+body, "class A$[B]"+body, "class A $pass", "class A() $= 1", "class A $B"+body)
}

func TestP5_2BlocksAreWhole(t *testing.T) {
	const ahead = "try" + body + "except"
	for _, s := range []string{"if a", "while a", "for a in b", "def f()", "class A", "class A()", "try", "if a" + body + "elif b", "if a" + body + "else", ahead, ahead + " a", ahead + " a as b", "try" + body + "finally"} {
		refuseAll(t, s+":$", s+": $pass", s+": $x = 1", s+":\n$", s+":\n$pass", s+":\n  x\n  y $z", s+":\n  $else:\n", s+":\n  x\n    $y", s+":\n  x\n  $finally:")
		if s == ahead {
			continue // An expr may stand there.
		}
		refuseAll(t, s+"$", s+"$\n  pass", s+" $= 1", s+" $, b:\n  pass", s+" $pass")
	}
}

func TestP5_2RestsOfIf(t *testing.T) {
	refuseAll(t, "if a"+body+"else"+body+"$else"+body, "if a"+body+"else"+body+"$elif b"+body, "if a"+body+"pass\n$else"+body, "if a"+body+"else $if b"+body, "if a"+body+"else $a"+body, "if a:\n  b\n  $else:\n    c\n", "if a"+body+"$except"+body, "if a"+body+"$finally"+body)
	refuseAll(t, "while a:\n  b\n$elif c:\n  d", "if a:\n  while b:\n    c\n  $else:\n    d", "if a:\n  b\nwhile c:\n  d\n$else:\n  e", "if a"+body+"elif b"+body+"else"+body+"$elif c"+body)
}

func TestP5_2Try(t *testing.T) {
	refuseAll(t, "try"+body+"$", "try"+body+"$pass", "try"+body+"$else"+body, "try"+body+"$x = 1", "if a:\n  try:\n    b\n  $c", "if a:\n  try:\n    b\n$c", "if a:\n  try:\n    b\n$except:\n  c", "try"+body+"$try"+body)
	refuseAll(t, "try"+body+"except"+body+"$except"+body, "try"+body+"except"+body+"$except a"+body, "try"+body+"except a"+body+"except"+body+"$except b as c"+body, "try"+body+"finally"+body+"$finally"+body, "try"+body+"finally"+body+"$except"+body, "try"+body+"except"+body+"finally"+body+"$except"+body, "try"+body+"except a"+body+"$else"+body)
	refuseAll(t, "try $a"+body, "try"+body+"except a $b"+body, "try"+body+"except a$, b"+body, "try"+body+"finally $a"+body, "try"+body+"except a as b$, c"+body, "try"+body+"except: $a")
}

func TestP5_2TheFirstWrongTokenIsTold(t *testing.T) {
	refuseAll(t, "x $y\n1 = 2\nif", "pass $pass pass", "if a $b\n  c d", "def f(a=1, $b, 1)", "x = $= y\n  pass", "if 2 $= x:\n  pass", "while a:\n  b $c\n  1 = 2")
	refuse(t, "x = 1\n$2 = x\ny z", api.ErrTarget)
	refuse(t, "if a:\n  $2 = = x", api.ErrTarget)
}

func TestP5_3SourcesThatAreWrongByLayer2(t *testing.T) {
	for s, want := range map[string]api.Errno{
		"$?": api.ErrByte, "x = $01": api.ErrNumber, "x = $'a": api.ErrString, "if a:\n    b\n  $c": api.ErrIndent,
		"x = $(1": api.ErrBracket, "x $)": api.ErrBracket, "1 = x\n$]": api.ErrBracket, "x y\nif a:\n    b\n  $c": api.ErrIndent, "pass pass $?": api.ErrByte, "x y\n\n$?": api.ErrByte,
	} {
		refuse(t, s, want)
	}
}

func TestP5_3SourcesAreTheirTokens(t *testing.T) {
	for _, s := range []string{"", "x = 1\n", "if a:\n  b\nelse:\n  c", "x y", "1 = 2", "del 1", "  a", "if a:\n  b\n  c d"} {
		l, _, _ := layout.Tokens(s)
		tr, place, e := parse.Module(s)
		again, placeAgain, eAgain := read(t, l)
		if !equal(tr, again) || place != placeAgain || e != eAgain {
			t.Errorf("%q: %v, %d, %d; of its tokens %v, %d, %d", s, tr, place, e, again, placeAgain, eAgain)
		}
	}
}
