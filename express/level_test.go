package express_test

import (
	"strings"
	"testing"

	"krait/api"
	"krait/express"
)

// levels are the chapter's, from 1 on, with commas between.
func levels() []string {
	return []string{"lambda,if", "or", "and", "not", "==,!=,<,<=,>,>=,in,not in,is,is not", "+,-", "*,//,%", "", "**", ".,(,["}
}

func TestP4_4Level(t *testing.T) {
	for i, row := range levels() {
		for _, op := range strings.Split(row, ",") {
			if op == "" {
				continue
			}
			if got := express.Level(op); got != i+1 {
				t.Errorf("%q: %d, want %d", op, got, i+1)
			}
			for _, near := range []string{op + " ", " " + op, op + "\x00", strings.ToUpper(op) + "_", op + op + op, strings.ReplaceAll(op+" ", " ", "  ")} {
				if got := express.Level(near); got != 0 {
					t.Errorf("%q: %d, want 0", near, got)
				}
			}
		}
	}
}

func TestP4_4LevelOfOtherTexts(t *testing.T) {
	for _, s := range []string{"", " ", "a", "1", "'", "else", "for", "None", "True", "def", "yield", "=", "+=", "-=", "**=", ")", "]", "}", "{", ",", ":", ";", "/", "!", "&", "|", "^", "~", "<>", "<<", "->", ":=", "is in", "in not", "not is", "notin", "isnot", "is  not", "not\tin", "not not", "If", "OR", "()", "[]", "..", "not in in", "is not in"} {
		if got := express.Level(s); got != 0 {
			t.Errorf("%q: %d", s, got)
		}
	}
}

func TestP4_4LevelsAreThoseOfParse(t *testing.T) {
	all := []string{"or", "and", "<", "not in", "is", "+", "-", "*", "//", "%", "**"}
	for _, first := range all {
		for _, second := range all {
			a, b := express.Level(first), express.Level(second)
			s := "a " + first + " b " + second + " c"
			switch {
			case a == 5 && b == 5:
				refuseCaret(t, "a "+first+" b $"+second+" c", api.ErrSyntax)
			case b > a || a == 9 && b == 9:
				expect(t, s, "("+first+" a ("+second+" b c))")
			default:
				expect(t, s, "("+second+" ("+first+" a b) c)")
			}
		}
	}
}
