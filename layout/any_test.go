package layout_test

import (
	"slices"
	"strings"
	"testing"

	"krait/api"
	"krait/layout"
	"krait/scan"
)

// each goes through all sources of at most that many of the pieces.
func each(pieces []string, many int, look func(s string)) {
	var goOn func(s string, more int)
	goOn = func(s string, more int) {
		look(s)
		if more == 0 {
			return
		}
		for _, p := range pieces {
			goOn(s+p, more-1)
		}
	}
	goOn("", many)
}

func TestP2_2AnySource(t *testing.T) {
	each([]string{"a", " ", "\n", "(", ")", "[", "]", "#", "'"}, 6, func(s string) { hold(t, s) })
	each([]string{"a\n", " a\n", "  a\n", "   a\n", "    a\n", "  (\n", ")\n", "\n", "   \n", " # a\n"}, 5, func(s string) { hold(t, s) })
}

// hold holds what is told of any source against what holds of all.
func hold(t *testing.T, s string) {
	tokens, place, e := layout.Tokens(s)
	if e != api.OK {
		holdWrong(t, s, tokens, place)
		return
	}
	if place != 0 {
		t.Errorf("%q: place %d without an error", s, place)
	}
	if want := lineTokens(s); !slices.Equal(without(tokens), want) {
		t.Errorf("%q: %v, its lines' tokens are %v", s, tokens, want)
	}
	holdBlocks(t, s, tokens)
	holdLines(t, s, tokens)
	holdPlaces(t, s, tokens)
}

// holdWrong: ahead of the line of an error nothing is wrong, but that a bracket may be open.
func holdWrong(t *testing.T, s string, tokens []api.Tok, place int) {
	if tokens != nil || place < 0 || place >= len(s) {
		t.Errorf("%q: %v, %d", s, tokens, place)
		return
	}
	ahead := s[:strings.LastIndexByte(s[:place], '\n')+1]
	if _, _, e := layout.Tokens(ahead); e != api.OK && e != api.ErrBracket {
		t.Errorf("%q: the place is %d, but %q is wrong: %d", s, place, ahead, e)
	}
}

// lineTokens are those of all lines, one after the other.
func lineTokens(s string) []api.Tok {
	var all []api.Tok
	at := 0
	for _, l := range strings.Split(s, "\n") {
		tokens, _, _ := scan.Line(l, at)
		all = append(all, tokens...)
		at += len(l) + 1
	}
	return all
}

// without leaves off what no line has.
func without(tokens []api.Tok) []api.Tok {
	return slices.DeleteFunc(slices.Clone(tokens), func(k api.Tok) bool { return k.Kind >= api.TokLine })
}

// holdBlocks: as many blocks end as begin, each behind its beginning, and the end is the end.
func holdBlocks(t *testing.T, s string, tokens []api.Tok) {
	depth := 0
	for _, k := range tokens[:len(tokens)-1] {
		switch k.Kind {
		case api.TokIn:
			depth++
		case api.TokOut:
			depth--
		case api.TokEnd:
			t.Errorf("%q: an end within: %v", s, tokens)
		}
		if depth < 0 {
			t.Errorf("%q: a block ends that did not begin: %v", s, tokens)
		}
	}
	if depth != 0 || tokens[len(tokens)-1] != end(len(s)) {
		t.Errorf("%q: %d blocks go on: %v", s, depth, tokens)
	}
}

// holdLines: each line with tokens has its TokLine, where the line ends, unless a bracket is open there.
func holdLines(t *testing.T, s string, tokens []api.Tok) {
	var want, got []int
	at, open := 0, 0
	for _, l := range strings.Split(s, "\n") {
		line, _, _ := scan.Line(l, at)
		for _, k := range line {
			if k.Kind == api.TokOp && strings.Contains("([{", k.Text) {
				open++
			} else if k.Kind == api.TokOp && strings.Contains(")]}", k.Text) {
				open--
			}
		}
		at += len(l)
		if len(line) > 0 && open == 0 {
			want = append(want, at)
		}
		at++
	}
	for _, k := range tokens {
		if k.Kind == api.TokLine {
			got = append(got, k.At)
		}
	}
	if !slices.Equal(got, want) {
		t.Errorf("%q: lines end at %v, told is %v", s, want, tokens)
	}
}

// holdPlaces: lines without tokens, and blanks at a line's end, change nothing but places.
func holdPlaces(t *testing.T, s string, tokens []api.Tok) {
	var bare, more []string
	for _, l := range strings.Split(s, "\n") {
		more = append(more, "", "      # x", l+"   ", "  ")
		if cut := strings.TrimRight(l, " "); cut != "" {
			bare = append(bare, cut)
		}
	}
	for _, other := range []string{strings.Join(bare, "\n"), strings.Join(more, "\n")} {
		again, place, e := layout.Tokens(other)
		if e != api.OK || place != 0 || !slices.Equal(placeless(again), placeless(tokens)) {
			t.Errorf("%q: %v, and %q: %v, %d, %d", s, tokens, other, again, place, e)
		}
	}
}

func placeless(tokens []api.Tok) []api.Tok {
	all := slices.Clone(tokens)
	for i := range all {
		all[i].At = 0
	}
	return all
}

func TestR3WhatIsToldIsTheCallers(t *testing.T) {
	const s = "a\n  b(1,\n'c')\n"
	first, _, _ := layout.Tokens(s)
	want := slices.Clone(first)
	clear(first)
	if again, _, e := layout.Tokens(s); e != api.OK || !slices.Equal(again, want) {
		t.Errorf("%v, %d; want %v", again, e, want)
	}
}
