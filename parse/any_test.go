package parse_test

import (
	"math/rand"
	"slices"
	"strings"
	"testing"

	"krait/api"
	"krait/layout"
	"krait/parse"
)

// hold holds what is told of tokens against the model.
func hold(t *testing.T, l []api.Tok) (int, api.Errno) {
	t.Helper()
	got, place, e := read(t, l)
	want, wantPlace, wantE := modelled(l)
	if !equal(got, want) || place != wantPlace || e != wantE {
		t.Errorf("%v: %v, %d, %d; want %v, %d, %d", l, got, place, e, want, wantPlace, wantE)
	}
	return place, e
}

// each goes through all rows of at most that many of the pieces, which a text tells with | between, and counts those that are modules. What is wrong far ahead of its end is not gone on with: what follows plays no part.
func each(t *testing.T, pieces string, most int) (modules int) {
	t.Helper()
	var rows [][]api.Tok
	for _, s := range strings.Split(pieces, "|") {
		rows = append(rows, row(t, s))
	}
	var goOn func(l []api.Tok, more int)
	goOn = func(l []api.Tok, more int) {
		place, e := hold(t, placed(slices.Clone(l)))
		if e == api.OK {
			modules++
		}
		if more == 0 || e != api.OK && place/10 < len(l)-2 {
			return
		}
		for _, r := range rows {
			goOn(append(l[:len(l):len(l)], r...), more-1)
		}
	}
	goOn(nil, most)
	return modules
}

func TestP5_1AnyRow(t *testing.T) {
	for _, c := range []struct {
		pieces string
		most   int
	}{
		{"a|1|=|+=|line|end|pass|return|global|,|del|assert|if|def|class|for|in|(|)|:", 3},
		{"a line|pass line|end|in:|out", 5},
		{"a|1|=|+=|line|end", 5},
		{"( a , b )|( a , 1 )|( )|=|+=|1 line end|line|end", 4},
		{"return|raise|yield|a|line|end", 5},
		{"global|a|,|line end", 5}, {"del|a|. b|[ a ]|1|line end", 4}, {"assert|a|,|line end", 5},
		{"if a|: line in:|pass line|out|else|elif b|end", 7},
		{"while|a|: line|in:|pass line|out|end", 7},
		{"for|a|in|(|)|,|1 : line in: pass line out end", 6},
		{"def f|(|)|a|=|,|: line in: pass line out end", 6}, {"def f (|a|= 1|,|) : line in: pass line out end", 7},
		{"class A|(|)|b|,|: line in: pass line out end", 6},
		{"try|: line in: pass line out|except|a|as|finally|end", 6},
		{"try : line in: pass line out|except : line in: pass line out|except a : line in: pass line out|except a as b : line in: pass line out|finally : line in: pass line out|end", 5},
	} {
		if modules := each(t, c.pieces, c.most); modules == 0 {
			t.Errorf("no row of %s is a module", c.pieces)
		}
	}
}

// grown is a source of statements of any kind, each line with that many blanks ahead.
func grown(r *rand.Rand, depth, indent int) string {
	var s strings.Builder
	for range 1 + r.Intn(3) {
		s.WriteString(grownOne(r, depth, strings.Repeat(" ", indent)))
	}
	return s.String()
}

func grownOne(r *rand.Rand, depth int, pad string) string {
	shapes := strings.Split("pass|break|continue|return|return E|raise|raise E|global a|nonlocal a, b, a|del T|assert E|assert E, E|yield E|E|T = E|(T, T) = E|T += E|T **= E", "|")
	if depth > 0 {
		shapes = append(shapes, strings.Split("if E:B|if E:Belse:B|if E:Belif E:B|if E:Belif E:Belse:B|while E:B|for T in E:B|for (T,) in E:B|def f():B|def f(a, b=E):B|class A:B|class A(E,):B|class A(E, E):B|try:Bfinally:B|try:Bexcept:B|try:Bexcept E as a:Bexcept E:Bexcept:Bfinally:B", "|")...)
	}
	s := shapes[r.Intn(len(shapes))]
	var all strings.Builder
	all.WriteString(pad)
	for i, c := range s {
		switch c {
		case 'E':
			all.WriteString(oneOf(r, "a|1|'s'|None|a.b|f(a, b)|a + b|not a|a in b|(a, b)|lambda a, b=1: a|a if b else c|[a]|{a: b}|a[b:]"))
		case 'T':
			all.WriteString(oneOf(r, "a|b.c|d[0]|(a)|f(a in b)[c in d]"))
		case 'B':
			all.WriteString("\n" + grown(r, depth-1, len(pad)+1+r.Intn(2)))
			if i < len(s)-1 {
				all.WriteString(pad)
			}
		default:
			all.WriteRune(c)
		}
	}
	if !strings.HasSuffix(all.String(), "\n") {
		all.WriteString("\n")
	}
	return all.String()
}

func oneOf(r *rand.Rand, all string) string {
	l := strings.Split(all, "|")
	return l[r.Intn(len(l))]
}

func TestP5_1GrownModules(t *testing.T) {
	r := rand.New(rand.NewSource(5))
	for range 400 {
		s := grown(r, r.Intn(4), 0)
		l, _, _ := layout.Tokens(s)
		if _, e := hold(t, l); e != api.OK {
			t.Errorf("%s: %d", s, e)
		}
		tr, place, e := parse.Module(s)
		holdTree(t, s, tr, place, e)
	}
}

func TestP5_2GrownModulesWithAFault(t *testing.T) {
	r := rand.New(rand.NewSource(6))
	others := row(t, "a 1 pass if else elif in for def class try except finally as return global del ( ) [ ] , : = += + . lambda not line in: out end")
	wrong := 0
	for range 2500 {
		l, _, _ := layout.Tokens(grown(r, r.Intn(3), 0))
		for range 1 + r.Intn(2) {
			i := r.Intn(len(l))
			switch other := others[r.Intn(len(others))]; r.Intn(4) {
			case 0:
				l = slices.Delete(l, i, i+1)
			case 1:
				l = slices.Insert(l, i, other)
			case 2:
				l[i] = other
			default:
				l = l[:i]
			}
			if len(l) == 0 {
				break
			}
		}
		if _, e := hold(t, placed(l)); e != api.OK {
			wrong++
		}
	}
	if wrong < 1500 {
		t.Errorf("only %d were wrong", wrong)
	}
}

func TestP1AnyTokens(t *testing.T) {
	r := rand.New(rand.NewSource(7))
	texts := strings.Split("|a|_|None|pass|if|else|for|in|def|class|try|except|as|finally|return|global|del|=|+=|(|)|:|,|.|1|é|a b|lambda|not", "|")
	kinds := []int{0, 1, 1, 1, 1, 1, 2, 3, 4, 4, 4, 4, 5, 5, 6, 7, 8, 9, -1}
	for range 20000 {
		var l []api.Tok
		for range r.Intn(9) {
			l = append(l, api.Tok{Kind: kinds[r.Intn(len(kinds))], Text: texts[r.Intn(len(texts))], N: r.Int63()})
		}
		hold(t, placed(l))
	}
}
