package express_test

import (
	"math/rand"
	"strings"
	"testing"

	"krait/api"
	"krait/tree"
)

// pick is a row of tokens by their texts.
func pick(t *testing.T, s string) []api.Tok {
	var l []api.Tok
	for _, x := range strings.Fields(s) {
		l = append(l, tokens(t, x)...)
	}
	return l
}

// each goes through all rows of at most that many of the tokens.
func each(of []api.Tok, most int, look func(l []api.Tok)) {
	var l []api.Tok
	var goOn func()
	goOn = func() {
		look(l)
		if len(l) == most {
			return
		}
		for _, tok := range of {
			tok.At = 10 * len(l)
			l = append(l, tok)
			goOn()
			l = l[:len(l)-1]
		}
	}
	goOn()
}

// hold holds what is told of any row, too short to be too deep, against the model.
func hold(t *testing.T, l []api.Tok) {
	nodes, used, e := read(t, l)
	want, wantUsed, wantE := modelled(l)
	if !equal(nodes, want) || used != wantUsed || e != wantE {
		t.Errorf("%v: %v, %d, %d; want %v, %d, %d", l, nodes, used, e, want, wantUsed, wantE)
	}
}

func TestP4_1AnyRow(t *testing.T) {
	look := func(l []api.Tok) { hold(t, l) }
	each(pick(t, "a 1 None lambda if else or and not in is == + * - ** . ( ) [ ] { } : , ="), 3, look)
	each(pick(t, "a ( ) , ."), 6, look)
	each(pick(t, "a [ ] : ,"), 6, look)
	each(pick(t, "a { } : ,"), 6, look)
	each(pick(t, "a not in is <"), 6, look)
	each(pick(t, "a - ** + * ("), 5, look)
	each(pick(t, "lambda a = , :"), 6, look)
	each(pick(t, "a if else or lambda :"), 5, look)
}

// shapes are pieces of which most rows of some are expressions, or begin as these do.
func shapes() []string {
	return strings.Split("a|b|1|'s'|None|True|( a )|()|[]|{}|(|(|)|)|[|]|{ a :|}|,|:|,|.b|.c|()|( a , )|[ a ]|[ : ]|[ a :|- a|not a|+ a|- a|* b|// b|% b|** c|** - c|== a|not in a|is not b|is|in|not|and a|or b|if a else b|if a else|if|else|lambda : a|lambda a : b|lambda a , b = 1 : c|lambda a = 1 , b : c|lambda|=|pass", "|")
}

func TestP4_1LongerRows(t *testing.T) {
	r := rand.New(rand.NewSource(4))
	var pieces [][]api.Tok
	for _, s := range shapes() {
		pieces = append(pieces, tokens(t, s))
	}
	right := 0
	for range 40000 {
		var l []api.Tok
		for range 1 + r.Intn(12) {
			l = append(l, pieces[r.Intn(len(pieces))]...)
		}
		l = row(l...)
		hold(t, l)
		if _, used, e := read(t, l); e == api.OK && used > 4 {
			right++
		}
	}
	if right < 2000 {
		t.Errorf("only %d rows were right", right)
	}
}

func TestP1AnyTokens(t *testing.T) {
	r := rand.New(rand.NewSource(6))
	texts := strings.Split("|a|_|None|True|lambda|if|else|or|and|not|in|is|not in|is not|def|+|-|*|**|==|<|.|(|)|[|]|{|}|:|,|=|+=|1|é|a b", "|")
	// Most kinds are those of words and signs, so that some rows are read some way.
	kinds := []int{0, 1, 1, 1, 1, 1, 1, 2, 3, 4, 4, 4, 4, 4, 4, 5, 8, -1}
	for range 50000 {
		var l []api.Tok
		for range r.Intn(8) {
			l = append(l, api.Tok{Kind: kinds[r.Intn(len(kinds))], Text: texts[r.Intn(len(texts))], N: r.Int63() - r.Int63()})
		}
		hold(t, row(l...))
	}
}

// grown is an expression of any kind, in brackets where a kid stands.
func grown(r *rand.Rand, depth int) string {
	kids := []string{"", "", ""}
	for i := range kids {
		kids[i] = "a"
		if depth > 1 {
			kids[i] = "(" + grown(r, depth-1) + ")"
		}
	}
	all := strings.Split("X|-X|not X|X + X|X * X|X ** X|X is not X|X and X|X or X|X if X else X|X.b|X()|X(X, X)|X[X]|X[X:X]|X[:X]|X[X:]|lambda: X|lambda a, b=X: X|[X, X,]|(X,)|{X: X}", "|")
	s := all[r.Intn(len(all))]
	for _, kid := range kids {
		s = strings.Replace(s, "X", kid, 1)
	}
	return s
}

func TestP4_1WhatIsToldIsARightTree(t *testing.T) {
	r := rand.New(rand.NewSource(5))
	for range 5000 {
		s := grown(r, 1+r.Intn(4))
		l := tokens(t, s)
		hold(t, l)
		nodes, used, e := read(t, l)
		n := len(nodes)
		whole := append(nodes, api.Node{Op: api.SExpr, Kids: []int{n - 1}}, api.Node{Op: api.SModule, Kids: []int{n}})
		if used != len(l) || e != api.OK || !tree.Right(whole) {
			t.Errorf("%s: %d, %d, %v", s, used, e, nodes)
		}
	}
}
