package parse_test

import (
	"math"
	"slices"
	"strings"
	"testing"

	"krait/api"
	"krait/parse"
)

// expectRow: the tokens' statements must be told so.
func expectRow(t *testing.T, l []api.Tok, want string) {
	t.Helper()
	tr, place, e := read(t, l)
	if e != api.OK {
		t.Errorf("%v: error %d at %d", l, e, place)
		return
	}
	if got := statements(tr, strings.Contains(want, "@")); got != want {
		t.Errorf("%v: %s, want %s", l, got, want)
	}
}

func TestP5_1Tokens(t *testing.T) {
	expectRow(t, row(t, "end"), "")
	expectRow(t, row(t, "pass line end"), "(pass@0)")
	expectRow(t, row(t, "x = 1 line y line end"), "(=@0 x@0 1@20) (expr@40 y@40)")
	expectRow(t, row(t, "if x : line in: pass line out else : line in: y line out end"), "(if@0 x@10 (block@50 (pass@50)) (block@120 (expr@120 y@120)))")
}

func TestP5_2TheEnd(t *testing.T) {
	refuseRow(t, nil, 0, api.ErrSyntax)
	refuseRow(t, []api.Tok{}, 0, api.ErrSyntax)
	refuseRow(t, row(t, "end end"), 1, api.ErrSyntax)
	refuseRow(t, row(t, "pass line end pass line end"), 3, api.ErrSyntax)
	refuseRow(t, row(t, "pass line end line"), 3, api.ErrSyntax)
	refuseRow(t, row(t, "pass end"), 1, api.ErrSyntax)
	refuseRow(t, row(t, "x end"), 1, api.ErrSyntax)
	refuseRow(t, row(t, "line end"), 0, api.ErrSyntax)
	refuseRow(t, row(t, "out end"), 0, api.ErrSyntax)
	refuseRow(t, row(t, "in: pass line out end"), 0, api.ErrSyntax)
	refuseRow(t, row(t, "pass line out end"), 2, api.ErrSyntax)
	refuseRow(t, row(t, "while x : line in: pass line end"), 7, api.ErrSyntax)
	refuseRow(t, row(t, "while x : line in: out end"), 5, api.ErrSyntax)
	refuseRow(t, row(t, "while x : line in: line out end"), 5, api.ErrSyntax)
	refuseRow(t, row(t, "while x : in: pass line out end"), 3, api.ErrSyntax)
	refuseRow(t, row(t, "while x : line in: pass line out out end"), 8, api.ErrSyntax)
}

func TestP5_2BehindTheLastTokenItIsThatOnesPlace(t *testing.T) {
	whole := row(t, "try : line in: global a , b line out except a as b : line in: for ( a , b ) in c : line in: x += 1 line def f ( a , b = 1 ) : line in: class A ( b , ) : line in: pass line out out out out finally : line in: if a : line in: assert a , b line out elif b : line in: del a line out else : line in: return line out out end")
	for i := 1; i < len(whole); i++ {
		refuseRow(t, slices.Clone(whole[:i]), i-1, api.ErrSyntax)
	}
	if tr, place, e := parse.Tokens(whole); e != api.OK {
		t.Error(tr, place, e)
	}
}

func TestP5_2PlacesAreTheTokensOwn(t *testing.T) {
	at := func(tok api.Tok, at int) api.Tok {
		tok.At = at
		return tok
	}
	l := []api.Tok{at(word("a"), -7), at(sign("="), math.MaxInt), at(word("b"), math.MinInt), at(of(api.TokLine), 3), at(of(api.TokEnd), 3)}
	expectRow(t, l, "(=@-7 a@-7 b@-9223372036854775808)")
	for i, place := range []int{-7, -7, math.MaxInt, math.MinInt, 3} {
		if _, got, e := parse.Tokens(l[:i]); i > 0 && (got != place || e != api.ErrSyntax) {
			t.Errorf("%v: %d at %d", l[:i], e, got)
		}
	}
	l[0] = at(api.Tok{Kind: api.TokInt, N: 1}, -7)
	if _, place, e := parse.Tokens(l); place != -7 || e != api.ErrTarget {
		t.Error(place, e)
	}
	l[0] = at(sign("="), -7)
	if _, place, e := parse.Tokens(l); place != -7 || e != api.ErrSyntax {
		t.Error(place, e)
	}
}

func TestP5_1KindAndTextAlonePlayAPart(t *testing.T) {
	l := row(t, "while a : line in: pass line out a = 1 line end")
	want, _, _ := parse.Tokens(l)
	for i := range l {
		if l[i].Kind != api.TokInt {
			l[i].N = 7
		}
		if l[i].Kind >= api.TokLine || l[i].Kind == api.TokInt {
			l[i].Text = "pass"
		}
	}
	if got, place, e := read(t, l); e != api.OK || !equal(got, want) {
		t.Error(got, place, e)
	}
}

func TestP5_1WordsAreNoSignsAndSignsNoWords(t *testing.T) {
	for _, s := range []string{"pass", "break", "if", "def", "try", "a", "return"} {
		refuseRow(t, placed([]api.Tok{sign(s), of(api.TokLine), of(api.TokEnd)}), 0, api.ErrSyntax)
		refuseRow(t, placed([]api.Tok{{Kind: api.TokLine, Text: s}, of(api.TokLine), of(api.TokEnd)}), 0, api.ErrSyntax)
		refuseRow(t, placed([]api.Tok{{Kind: 9, Text: s}, of(api.TokLine), of(api.TokEnd)}), 0, api.ErrSyntax)
		refuseRow(t, placed([]api.Tok{{Text: s}, of(api.TokLine), of(api.TokEnd)}), 0, api.ErrSyntax)
		expectRow(t, placed([]api.Tok{{Kind: api.TokStr, Text: s}, of(api.TokLine), of(api.TokEnd)}), "(expr "+s+")")
	}
	swap := map[int]int{api.TokName: api.TokOp, api.TokOp: api.TokName}
	for _, s := range []string{"a = b line end", "a += b line end", "if a : line in: pass line out else : line in: pass line out end", "if a : line in: pass line out elif b : line in: pass line out end", "for a in b : line in: pass line out end", "def f ( a , b ) : line in: pass line out end", "class A ( b , ) : line in: pass line out end", "try : line in: pass line out except a as b : line in: pass line out finally : line in: pass line out end", "global a , b line end", "assert a , b line end", "return a line end"} {
		l := row(t, s)
		for i, tok := range l {
			if other, ok := swap[tok.Kind]; ok {
				l[i].Kind = other
				refuseRow(t, slices.Clone(l), i, api.ErrSyntax)
				l[i] = tok
			}
		}
	}
	for _, s := range []string{"", "a b", "é", "1a", "a.b", " a"} {
		refuseRow(t, placed([]api.Tok{word("global"), word(s), of(api.TokLine), of(api.TokEnd)}), 1, api.ErrSyntax)
		refuseRow(t, placed([]api.Tok{word(s), of(api.TokLine), of(api.TokEnd)}), 0, api.ErrSyntax)
	}
}

func TestP5_1TheFirstExprOfForEndsWithTheLine(t *testing.T) {
	// An in behind a line, or behind what a line does not have, is none of the for's.
	for _, s := range []string{"line", "in:", "out", "end"} {
		refuseRow(t, row(t, "for a "+s+" in b : line in: pass line out end"), 2, api.ErrSyntax)
		refuseRow(t, row(t, "for "+s+" in b : line in: pass line out end"), 1, api.ErrSyntax)
		refuseRow(t, row(t, "for ( a "+s+" in b ) in c : line in: pass line out end"), 3, api.ErrSyntax)
		refuseRow(t, row(t, "for a + "+s), 3, api.ErrSyntax)
		refuseRow(t, row(t, "for 1 "+s+" in b : line in: pass line out end"), 1, api.ErrTarget)
	}
	refuseRow(t, row(t, "for a ) in b : line in: pass line out end"), 2, api.ErrSyntax)
	refuseRow(t, row(t, "for a ) ( in b ) in c : line in: pass line out end"), 2, api.ErrSyntax)
	refuseRow(t, row(t, "for ( a ] in b ) in c : line in: pass line out end"), 3, api.ErrSyntax)
	refuseRow(t, row(t, "for 1"), 1, api.ErrTarget)
	refuseRow(t, row(t, "for ("), 1, api.ErrSyntax)
	refuseRow(t, row(t, "for a b"), 2, api.ErrSyntax)
}

func TestR3WhatIsToldIsTheCallers(t *testing.T) {
	l := row(t, "if x : line in: pass line out a = 1 line end")
	first, _, _ := parse.Tokens(l)
	want, _, _ := parse.Tokens(l)
	for i := range first {
		for j := range first[i].Kids {
			first[i].Kids[j] = -1
		}
		first[i] = api.Node{}
	}
	if again, place, e := parse.Tokens(l); e != api.OK || !equal(again, want) {
		t.Error(again, place, e)
	}
}

func TestP1LongAndDeepTokens(t *testing.T) {
	const many = 1 << 14
	tr, place, e := parse.Module(strings.Repeat("if a:\n  (b, c[0]) = d\nelse:\n  e\n", many))
	if e != api.OK || len(tr[len(tr)-1].Kids) != many {
		t.Error(place, e)
	}
	const deep = 1 << 16
	refuseRow(t, row(t, strings.Repeat("( ", deep)+"line end"), deep, api.ErrSyntax)
	refuseRow(t, row(t, "for "+strings.Repeat("( ", deep)+"a "+strings.Repeat(") ", deep)+"in line end"), 2*deep+3, api.ErrSyntax)
	refuseRow(t, row(t, strings.Repeat("if a : line ", 100)), 4, api.ErrSyntax)
	refuseRow(t, row(t, strings.Repeat("if a : line in: ", 100)), 5*api.MaxNest+4, api.ErrDepth)
}
