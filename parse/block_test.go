package parse_test

import (
	"testing"

	"krait/api"
	"krait/parse"
)

func TestP5_1Blocks(t *testing.T) {
	expect(t, "while x:\n  pass\n", "(while x (block (pass)))")
	expect(t, "while x:\n  pass\n  y\n  z = 1\npass", "(while x (block (pass) (expr y) (= z 1))) (pass)")
	expect(t, "while x:\n  while y:\n    pass\n    break\n  continue\npass", "(while x (block (while y (block (pass) (break))) (continue))) (pass)")
	expect(t, "while x:\n  while y:\n    pass", "(while x (block (while y (block (pass)))))")
	expect(t, "while a == b and c:\n  f()\n", "(while (and (== a b) c) (block (expr (call f))))")
}

func TestP5_1If(t *testing.T) {
	const body = ":\n  pass\n"
	expect(t, "if a"+body, "(if a (block (pass)))")
	expect(t, "if a"+body+"else"+body, "(if a (block (pass)) (block (pass)))")
	expect(t, "if a"+body+"elif b"+body, "(if a (block (pass)) (block (if b (block (pass)))))")
	expect(t, "if a"+body+"elif b"+body+"else:\n  c\n  d\n", "(if a (block (pass)) (block (if b (block (pass)) (block (expr c) (expr d)))))")
	expect(t, "if a"+body+"elif b"+body+"elif c"+body+"else"+body, "(if a (block (pass)) (block (if b (block (pass)) (block (if c (block (pass)) (block (pass)))))))")
	expect(t, "if a"+body+"if b"+body+"else"+body, "(if a (block (pass))) (if b (block (pass)) (block (pass)))")
	expect(t, "if a:\n  if b:\n    c\n  else:\n    d\n", "(if a (block (if b (block (expr c)) (block (expr d)))))")
	expect(t, "if a:\n  if b:\n    c\nelse:\n    d\n", "(if a (block (if b (block (expr c)))) (block (expr d)))")
	expect(t, "if a:\n  if b:\n    c\nelif d:\n    e\nf", "(if a (block (if b (block (expr c)))) (block (if d (block (expr e))))) (expr f)")
	expect(t, "if a"+body+"else:\n  if b:\n    pass\n", "(if a (block (pass)) (block (if b (block (pass)))))")
	expect(t, "if a if b else c"+body, "(if (if-else a b c) (block (pass)))")
	expect(t, "if lambda: a"+body, "(if (lambda a) (block (pass)))")
	expect(t, "if{a: b}"+body, "(if (dict a b) (block (pass)))")
}

func TestP5_1For(t *testing.T) {
	const body = ":\n  pass\n"
	expect(t, "for x in y"+body, "(for x y (block (pass)))")
	expect(t, "for x.a in y"+body, "(for (.a x) y (block (pass)))")
	expect(t, "for x[0] in y"+body, "(for (index x 0) y (block (pass)))")
	expect(t, "for (x) in (y)"+body, "(for x y (block (pass)))")
	expect(t, "for (x, y.z, a[b]) in c"+body, "(for (tuple x (.z y) (index a b)) c (block (pass)))")
	expect(t, "for (x,) in y"+body, "(for (tuple x) y (block (pass)))")
	expect(t, "for x in y:\n  for z in x:\n    pass\n  break\n", "(for x y (block (for z x (block (pass))) (break)))")
}

func TestP5_1InOfForIsTheFirstOneWithinNoBrackets(t *testing.T) {
	const body = ":\n  pass\n"
	expect(t, "for x in y in z"+body, "(for x (in y z) (block (pass)))")
	expect(t, "for x in not y in z"+body, "(for x (not (in y z)) (block (pass)))")
	expect(t, "for x in y not in z"+body, "(for x (not in y z) (block (pass)))")
	expect(t, "for x[a in b] in y"+body, "(for (index x (in a b)) y (block (pass)))")
	expect(t, "for f(a in b).c in y"+body, "(for (.c (call f (in a b))) y (block (pass)))")
	expect(t, "for {a in b: c in d}[[(e in f)]] in y in z"+body, "(for (index (dict (in a b) (in c d)) (list (in e f))) (in y z) (block (pass)))")
	expect(t, "for (x[a in b], y) in z"+body, "(for (tuple (index x (in a b)) y) z (block (pass)))")
	expect(t, "for (a in b)[x] in y"+body, "(for (index (in a b) x) y (block (pass)))")
	expect(t, "for x in lambda a=b in c: a"+body, "(for x (lambda (param a (in b c)) a) (block (pass)))")
	expect(t, "x[0]\nfor y in (a in b)"+body, "(expr (index x 0)) (for y (in a b) (block (pass)))")
}

func TestP5_1Def(t *testing.T) {
	const body = ":\n  pass\n"
	expect(t, "def f()"+body, "(def f (block (pass)))")
	expect(t, "def f(a)"+body, "(def f (param a) (block (pass)))")
	expect(t, "def f(a, b, c)"+body, "(def f (param a) (param b) (param c) (block (pass)))")
	expect(t, "def f(a=1)"+body, "(def f (param a 1) (block (pass)))")
	expect(t, "def f(a, b=1, c=x == y)"+body, "(def f (param a) (param b 1) (param c (== x y)) (block (pass)))")
	expect(t, "def f(a=lambda b=1: c, d=(e, f))"+body, "(def f (param a (lambda (param b 1) c)) (param d (tuple e f)) (block (pass)))")
	expect(t, "def f(a, a, a=1, a=2)"+body, "(def f (param a) (param a) (param a 1) (param a 2) (block (pass)))")
	expect(t, "def _9(a):\n  def g():\n    return a\n  return g\n", "(def _9 (param a) (block (def g (block (return a))) (return g)))")
}

func TestP5_1Class(t *testing.T) {
	const body = ":\n  pass\n"
	expect(t, "class A"+body, "(class A (block (pass)))")
	expect(t, "class A()"+body, "(class A (block (pass)))")
	expect(t, "class A(B)"+body, "(class A B (block (pass)))")
	expect(t, "class A(B,)"+body, "(class A B (block (pass)))")
	expect(t, "class A(B, c.D, e())"+body, "(class A B (.D c) (call e) (block (pass)))")
	expect(t, "class A(B, 1 if 2 else 3,)"+body, "(class A B (if-else 1 2 3) (block (pass)))")
	expect(t, "class A((B, C))"+body, "(class A (tuple B C) (block (pass)))")
	expect(t, "class A:\n  x = 1\n  def f(self):\n    pass\n", "(class A (block (= x 1) (def f (param self) (block (pass)))))")
}

func TestP5_1Try(t *testing.T) {
	const body = ":\n  pass\n"
	expect(t, "try"+body+"finally"+body, "(try (block (pass)) (finally (block (pass))))")
	expect(t, "try"+body+"except"+body, "(try (block (pass)) (except (block (pass))))")
	expect(t, "try"+body+"except a"+body, "(try (block (pass)) (except a (block (pass))))")
	expect(t, "try"+body+"except a.b as c"+body, "(try (block (pass)) (except c (.b a) (block (pass))))")
	expect(t, "try"+body+"except a"+body+"except (b, c) as d"+body+"except"+body+"finally"+body, "(try (block (pass)) (except a (block (pass))) (except d (tuple b c) (block (pass))) (except (block (pass))) (finally (block (pass))))")
	expect(t, "try"+body+"except a"+body+"finally:\n  x\n  y\n", "(try (block (pass)) (except a (block (pass))) (finally (block (expr x) (expr y))))")
	expect(t, "try"+body+"except"+body+"try"+body+"except"+body, "(try (block (pass)) (except (block (pass)))) (try (block (pass)) (except (block (pass))))")
	expect(t, "try:\n  try:\n    a\n  except:\n    b\nexcept:\n  c\n", "(try (block (try (block (expr a)) (except (block (expr b))))) (except (block (expr c))))")
	expect(t, "try:\n  try:\n    a\n  except b:\n    c\nfinally:\n  d\n", "(try (block (try (block (expr a)) (except b (block (expr c))))) (finally (block (expr d))))")
}

func TestP5_1Places(t *testing.T) {
	expect(t, " # x\n\nx", "(expr@6 x@6)")
	expect(t, "(x).y", "(expr@0 (.y@1 x@1))")
	expect(t, "pass\nbreak\ncontinue\nreturn\nraise", "(pass@0) (break@5) (continue@11) (return@20) (raise@27)")
	expect(t, "return x\nraise  y", "(return@0 x@7) (raise@9 y@16)")
	expect(t, "global a\nnonlocal b, c", "(global a@0) (nonlocal b c@9)")
	expect(t, "del (a)\nassert b, c\nyield d", "(del@0 a@5) (assert@8 b@15 c@18) (yield@20 d@26)")
	expect(t, "(a) = b\n(a).b += c", "(=@0 a@1 b@6) (aug +@8 (.b@9 a@9) c@17)")
	expect(t, "((a), b) = c", "(=@0 (tuple@0 a@2 b@6) c@11)")
	expect(t, "while a:\n  (b)\n  c", "(while@0 a@6 (block@11 (expr@11 b@12) (expr@17 c@17)))")
	expect(t, "if a:\n  b\nelse:\n  c\n", "(if@0 a@3 (block@8 (expr@8 b@8)) (block@18 (expr@18 c@18)))")
	expect(t, "if a:\n  b\nelif c:\n  d\nelif e:\n  f\n", "(if@0 a@3 (block@8 (expr@8 b@8)) (block@10 (if@10 c@15 (block@20 (expr@20 d@20)) (block@22 (if@22 e@27 (block@32 (expr@32 f@32)))))))")
	expect(t, "if a:\n\n  # x\n  b", "(if@0 a@3 (block@15 (expr@15 b@15)))")
	expect(t, "for (a) in b:\n  c", "(for@0 a@5 b@11 (block@16 (expr@16 c@16)))")
	expect(t, "def f(a, b=1):\n  pass", "(def f@0 (param a@6) (param b@9 1@11) (block@17 (pass@17)))")
	expect(t, "class A(b, c):\n  pass", "(class A@0 b@8 c@11 (block@17 (pass@17)))")
	expect(t, "try:\n a\nexcept b as c:\n d\nexcept:\n e\nfinally:\n f", "(try@0 (block@6 (expr@6 a@6)) (except c@8 b@15 (block@24 (expr@24 d@24))) (except@26 (block@35 (expr@35 e@35))) (finally@37 (block@47 (expr@47 f@47))))")
}

func TestP5_1TheModuleStandsAtTheBeginning(t *testing.T) {
	for _, s := range []string{"", "\n\nx", "# a\nx = 1\ny = 2\n"} {
		tr, _, e := parse.Module(s)
		if n := tr[len(tr)-1]; e != api.OK || n.Op != api.SModule || n.At != 0 || n.S != "" || n.N != 0 {
			t.Errorf("%q: %v, %d", s, n, e)
		}
	}
}

func TestP5_1NodesStandBehindTheirKidsFromTheLeft(t *testing.T) {
	got, _, _ := parse.Module("def f(a, b=1):\n  x.y = a\nif a:\n  pass\nelif b:\n  b\n")
	want := api.Tree{
		{Op: api.OParam, At: 6, S: "a"}, {Op: api.OInt, At: 11, N: 1}, {Op: api.OParam, At: 9, S: "b", Kids: []int{1}},
		{Op: api.OName, At: 17, S: "x"}, {Op: api.OAttr, At: 17, S: "y", Kids: []int{3}}, {Op: api.OName, At: 23, S: "a"},
		{Op: api.SAssign, At: 17, Kids: []int{4, 5}}, {Op: api.SBlock, At: 17, Kids: []int{6}}, {Op: api.SDef, At: 0, S: "f", Kids: []int{0, 2, 7}},
		{Op: api.OName, At: 28, S: "a"}, {Op: api.SPass, At: 33}, {Op: api.SBlock, At: 33, Kids: []int{10}},
		{Op: api.OName, At: 43, S: "b"}, {Op: api.OName, At: 48, S: "b"}, {Op: api.SExpr, At: 48, Kids: []int{13}}, {Op: api.SBlock, At: 48, Kids: []int{14}},
		{Op: api.SIf, At: 38, Kids: []int{12, 15}}, {Op: api.SBlock, At: 38, Kids: []int{16}}, {Op: api.SIf, At: 25, Kids: []int{9, 11, 17}},
		{Op: api.SModule, Kids: []int{8, 18}},
	}
	if !equal(got, want) {
		t.Errorf("%v, want %v", got, want)
	}
}
