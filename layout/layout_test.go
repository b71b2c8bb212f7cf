package layout_test

import (
	"slices"
	"strings"
	"testing"

	"krait/api"
	"krait/layout"
)

func name(at int, s string) api.Tok { return api.Tok{Kind: api.TokName, At: at, Text: s} }

func integer(at int, n int64) api.Tok { return api.Tok{Kind: api.TokInt, At: at, N: n} }

func str(at int, s string) api.Tok { return api.Tok{Kind: api.TokStr, At: at, Text: s} }

func op(at int, s string) api.Tok { return api.Tok{Kind: api.TokOp, At: at, Text: s} }

func line(at int) api.Tok { return api.Tok{Kind: api.TokLine, At: at} }

func in(at int) api.Tok { return api.Tok{Kind: api.TokIn, At: at} }

func out(at int) api.Tok { return api.Tok{Kind: api.TokOut, At: at} }

func end(at int) api.Tok { return api.Tok{Kind: api.TokEnd, At: at} }

func expect(t *testing.T, s string, want ...api.Tok) {
	t.Helper()
	got, place, e := layout.Tokens(s)
	if e != api.OK || place != 0 || !slices.Equal(got, want) {
		t.Errorf("Tokens(%.60q): %v, %d, %d; want %v", s, got, place, e, want)
	}
}

func refuse(t *testing.T, s string, place int, e api.Errno) {
	t.Helper()
	l, p, got := layout.Tokens(s)
	if l != nil || p != place || got != e {
		t.Errorf("Tokens(%.60q): %v, %d, %d; want none, %d, %d", s, l, p, got, place, e)
	}
}

func TestP2_1Examples(t *testing.T) {
	expect(t, "if a:\n  b\n", name(0, "if"), name(3, "a"), op(4, ":"), line(5), in(8), name(8, "b"), line(9), out(10), end(10))
	expect(t, "f(1,\n  2)", name(0, "f"), op(1, "("), integer(2, 1), op(3, ","), integer(7, 2), op(8, ")"), line(9), end(9))
}

func TestP2_1SourcesWithoutTokens(t *testing.T) {
	for _, s := range []string{"", " ", "     ", "\n", "\n\n\n", "  \n", "\n  ", " \n   \n  \n", "#", "# $", "   # '\n", "#\t\r\x00\xff", "  #\n    #\n #\n", "# (\n# ]\n"} {
		expect(t, s, end(len(s)))
	}
}

func TestP2_1LinesEnd(t *testing.T) {
	expect(t, "a", name(0, "a"), line(1), end(1))
	expect(t, "a\n", name(0, "a"), line(1), end(2))
	expect(t, "a\n\n", name(0, "a"), line(1), end(3))
	expect(t, "a\nb", name(0, "a"), line(1), name(2, "b"), line(3), end(3))
	expect(t, "a\n\n\nb\n", name(0, "a"), line(1), name(4, "b"), line(5), end(6))
	expect(t, "a   \nb ", name(0, "a"), line(4), name(5, "b"), line(7), end(7))
	expect(t, "a # b\nc#", name(0, "a"), line(5), name(6, "c"), line(8), end(8))
	expect(t, "x = 'a' 1 # (\n", name(0, "x"), op(2, "="), str(4, "a"), integer(8, 1), line(13), end(14))
}

func TestP2_1Blocks(t *testing.T) {
	expect(t, "  a", in(2), name(2, "a"), line(3), out(3), end(3))
	expect(t, "  a\nb", in(2), name(2, "a"), line(3), out(4), name(4, "b"), line(5), end(5))
	expect(t, "a\n b\n b\nc", name(0, "a"), line(1), in(3), name(3, "b"), line(4), name(6, "b"), line(7), out(8), name(8, "c"), line(9), end(9))
	expect(t, "a\n b\n  c\n     d\n", name(0, "a"), line(1), in(3), name(3, "b"), line(4), in(7), name(7, "c"), line(8), in(14), name(14, "d"), line(15), out(16), out(16), out(16), end(16))
	expect(t, "a\n b\n   c\n d", name(0, "a"), line(1), in(3), name(3, "b"), line(4), in(8), name(8, "c"), line(9), out(11), name(11, "d"), line(12), out(12), end(12))
	expect(t, "a\n b\n   c\nd", name(0, "a"), line(1), in(3), name(3, "b"), line(4), in(8), name(8, "c"), line(9), out(10), out(10), name(10, "d"), line(11), end(11))
	expect(t, "a\n  b\nc\n d", name(0, "a"), line(1), in(4), name(4, "b"), line(5), out(6), name(6, "c"), line(7), in(9), name(9, "d"), line(10), out(10), end(10))
	expect(t, " a\n b", in(1), name(1, "a"), line(2), name(4, "b"), line(5), out(5), end(5))
}

func TestP2_1LinesWithoutTokensBeginAndEndNoBlock(t *testing.T) {
	expect(t, "a\n   # x\n \n  b\n#\n\n     # y\n  c\n # z", name(0, "a"), line(1), in(13), name(13, "b"), line(14), name(29, "c"), line(30), out(35), end(35))
	expect(t, "    # x\n      \na", name(15, "a"), line(16), end(16))
	expect(t, "if a:\n  b\n ", name(0, "if"), name(3, "a"), op(4, ":"), line(5), in(8), name(8, "b"), line(9), out(11), end(11))
}

func TestP2_1ErrIndent(t *testing.T) {
	refuse(t, "a\n  b\n c", 7, api.ErrIndent)
	refuse(t, "if a:\n    b\n  c\n", 14, api.ErrIndent)
	refuse(t, "  a\n b", 5, api.ErrIndent)
	refuse(t, "a\n b\n   c\n     d\n  e\nf", 19, api.ErrIndent)
	refuse(t, "a\n b\n   c\n     d\n    e\nf", 21, api.ErrIndent)
	refuse(t, "a\n  b\n\n# x\n  \n c", 15, api.ErrIndent)
	refuse(t, "a\n  b\n c # d", 7, api.ErrIndent)
}

func TestP2_1TheIndentationIsLookedAtFirst(t *testing.T) {
	refuse(t, "a\n  b\n $", 7, api.ErrIndent)
	refuse(t, "a\n  b\n '", 7, api.ErrIndent)
	refuse(t, "a\n  b\n )", 7, api.ErrIndent)
	refuse(t, "a\n  b\n (", 7, api.ErrIndent)
	refuse(t, "a\n  01\n c", 4, api.ErrNumber)
	refuse(t, "a\n  b)\n c", 5, api.ErrBracket)
	refuse(t, "a\n  b\n c\n$", 7, api.ErrIndent)
}

func TestP2_1ErrorsOfScan(t *testing.T) {
	refuse(t, "$", 0, api.ErrByte)
	refuse(t, "a\n b\n c $\n", 8, api.ErrByte)
	refuse(t, "a\n b = 007\n", 7, api.ErrNumber)
	refuse(t, "a\n  'b\n'", 4, api.ErrString)
	refuse(t, "a\n  b 'c", 6, api.ErrString)
	refuse(t, "a\n  b\n9223372036854775808", 6, api.ErrNumber)
	refuse(t, "f(\n   1,\n  $)", 11, api.ErrByte)
	refuse(t, "(a\n  'b\n  c')", 5, api.ErrString)
	refuse(t, "a $\nb 01\n", 2, api.ErrByte)
	refuse(t, "a 01\nb $\n", 2, api.ErrNumber)
}

func TestP2_1OnlyBlanksAreIndentation(t *testing.T) {
	refuse(t, "\ta", 0, api.ErrByte)
	refuse(t, "a\n  \tb", 4, api.ErrByte)
	refuse(t, "a\n \t\nb", 3, api.ErrByte)
	refuse(t, "a\r\nb", 1, api.ErrByte)
	refuse(t, "a\n  \r\n", 4, api.ErrByte)
	refuse(t, "\xef\xbb\xbfa", 0, api.ErrByte)
	refuse(t, "\u00a0a", 0, api.ErrByte)
	refuse(t, "\x00", 0, api.ErrByte)
	expect(t, "a # \r\n#\t\n", name(0, "a"), line(5), end(9))
}

func TestP2_1WithinBracketsLinesGoOn(t *testing.T) {
	for _, pair := range []string{"()", "[]", "{}"} {
		open, closer := pair[:1], pair[1:]
		expect(t, open+closer, op(0, open), op(1, closer), line(2), end(2))
		expect(t, open+"\n"+closer, op(0, open), op(2, closer), line(3), end(3))
		expect(t, "a"+open+"\n\n   # "+closer+"\n b\n     c \n"+closer+" # d\ne", name(0, "a"), op(1, open), name(12, "b"), name(19, "c"), op(22, closer), line(27), name(28, "e"), line(29), end(29))
		expect(t, "a\n  b"+open+"\nc\n   d"+closer+"\n  e\n", name(0, "a"), line(1), in(4), name(4, "b"), op(5, open), name(7, "c"), name(12, "d"), op(13, closer), line(14), name(17, "e"), line(18), out(19), end(19))
		expect(t, "'"+open+"'\nb # "+open+"\n'"+closer+"'", str(0, open), line(3), name(4, "b"), line(9), str(10, closer), line(13), end(13))
	}
	expect(t, "([\n{}\n  ]\n    )a\nb", op(0, "("), op(1, "["), op(3, "{"), op(4, "}"), op(8, "]"), op(14, ")"), name(15, "a"), line(16), name(17, "b"), line(18), end(18))
	expect(t, "(\n     )(\n  )\na", op(0, "("), op(7, ")"), op(8, "("), op(12, ")"), line(13), name(14, "a"), line(15), end(15))
	expect(t, "  (\n)\n  a", in(2), op(2, "("), op(4, ")"), line(5), name(8, "a"), line(9), out(9), end(9))
}

func TestP2_1ErrBracket(t *testing.T) {
	for _, s := range []string{")", "]", "}"} {
		refuse(t, s, 0, api.ErrBracket)
		refuse(t, "a\n b"+s+"(", 4, api.ErrBracket)
		refuse(t, "([{}])\n"+s, 7, api.ErrBracket)
	}
	for _, open := range []string{"(", "[", "{"} {
		refuse(t, open, 0, api.ErrBracket)
		refuse(t, "a\n b"+open+"\n\nc\n", 4, api.ErrBracket)
		refuse(t, "("+open+"() [\n] {}", 1, api.ErrBracket)
		for _, closer := range []string{")", "]", "}"} {
			if pair := open + closer; pair != "()" && pair != "[]" && pair != "{}" {
				refuse(t, pair, 1, api.ErrBracket)
				refuse(t, "([{ "+open+"\n  a\n   "+closer+" }])", 13, api.ErrBracket)
			}
		}
	}
	refuse(t, "(\n[\n(\n)\n", 2, api.ErrBracket)
	refuse(t, "([)]", 2, api.ErrBracket)
	refuse(t, "())", 2, api.ErrBracket)
	refuse(t, "(\n) )", 4, api.ErrBracket)
	refuse(t, ") (", 0, api.ErrBracket)
	refuse(t, "a\n  (\nb\n c", 4, api.ErrBracket)
}

func TestP2_1ALinesTokensAreLookedAtAheadOfItsBrackets(t *testing.T) {
	refuse(t, ") $", 2, api.ErrByte)
	refuse(t, "(] 01", 3, api.ErrNumber)
	refuse(t, "a\n } '", 5, api.ErrString)
	refuse(t, ")\n$", 0, api.ErrBracket)
	refuse(t, "( $", 2, api.ErrByte)
	refuse(t, "(\n$", 2, api.ErrByte)
	refuse(t, "(\n]\n$", 2, api.ErrBracket)
}

func TestP2_1ManyBlocks(t *testing.T) {
	const deep = 1 << 10
	var s strings.Builder
	var want []api.Tok
	for i := range deep {
		at := s.Len() + i
		if i > 0 {
			want = append(want, in(at))
		}
		s.WriteString(strings.Repeat(" ", i) + "a\n")
		want = append(want, name(at, "a"), line(at+1))
	}
	for i := range deep / 2 {
		down := deep - 2*i - 2
		at := s.Len() + down
		// The first b stands in the deepest block but one, each other one two blocks further out.
		want = append(want, out(at))
		if i > 0 {
			want = append(want, out(at))
		}
		s.WriteString(strings.Repeat(" ", down) + "b\n")
		want = append(want, name(at, "b"), line(at+1))
	}
	want = append(want, end(s.Len()))
	expect(t, s.String(), want...)
}

func TestP1DeepAndLongSources(t *testing.T) {
	const deep = 1 << 16
	opened := strings.Repeat("(\n", deep)
	refuse(t, opened, 2*deep-2, api.ErrBracket)
	refuse(t, opened+"]", 2*deep, api.ErrBracket)
	l, place, e := layout.Tokens(opened + strings.Repeat(")\n", deep))
	if len(l) != 2*deep+2 || place != 0 || e != api.OK || l[2*deep] != line(4*deep-1) {
		t.Error(len(l), place, e)
	}
	l, place, e = layout.Tokens(strings.Repeat("a\n", 1<<20))
	if len(l) != 1<<21+1 || place != 0 || e != api.OK || l[1<<21] != end(1<<21) {
		t.Error(len(l), place, e)
	}
	blanks := strings.Repeat(" ", 1<<20)
	expect(t, blanks+"a", in(1<<20), name(1<<20, "a"), line(1<<20+1), out(1<<20+1), end(1<<20+1))
}
