package scan_test

import (
	"fmt"
	"strings"
	"testing"

	"krait/api"
	"krait/scan"
)

func TestP1_2Strs(t *testing.T) {
	expect(t, `''""`, 0, str(0, ""), str(2, ""))
	expect(t, `'a"b' "a'b"`, 0, str(0, `a"b`), str(6, `a'b`))
	expect(t, `'\n\t\\\'\"\x4F\x4f'`, 0, str(0, "\n\t\\'\"OO"))
	expect(t, `"\n\t\\\'\"\x00\xFf"`, 0, str(0, "\n\t\\'\"\x00\xff"))
	expect(t, `'\x414'`, 0, str(0, "A4"))
	expect(t, `'\\'n'\\n'`, 0, str(0, `\`), name(4, "n"), str(5, `\n`))
	expect(t, `'\x27\x5cn'`, 0, str(0, `'\n`))
	expect(t, "'né \xff\x7f'", 0, str(0, "né \xff\x7f"))
	expect(t, `'a'# 'b'`, 0, str(0, "a"))
	for _, s := range []string{`'`, `"`, `'a`, `'a"`, `"a'`, `'a\'`, `'\`, `'\'`, `'a' '`, `"\\\"`, `'\x4`, `'\x4'`, `'\x'`, `'\x`, `'\`, `'\x4\'`} {
		refuse(t, s, 0, strings.LastIndex(s, " ")+1, api.ErrString)
	}
}

func TestP1_2StrsOfEachByte(t *testing.T) {
	for i := range 256 {
		b := string([]byte{byte(i)})
		for _, q := range []string{"'", `"`} {
			switch {
			case i < 32 || b == `\`:
				refuse(t, "a "+q+b+q, 0, 2, api.ErrString)
				refuse(t, q+"ab"+b+"ab"+q, 0, 0, api.ErrString)
			case b == q:
				refuse(t, q+b+q, 0, 2, api.ErrString)
			default:
				expect(t, q+b+q, 0, str(0, b))
				expect(t, q+"ab"+b+"ab"+q, 0, str(0, "ab"+b+"ab"))
			}
		}
	}
}

func TestP1_2EachEscape(t *testing.T) {
	says := map[string]string{"n": "\n", "t": "\t", `\`: `\`, "'": "'", `"`: `"`}
	for i := range 256 {
		b := string([]byte{byte(i)})
		for _, q := range []string{"'", `"`} {
			if said, ok := says[b]; ok {
				expect(t, q+"a\\"+b+"c"+q, 0, str(0, "a"+said+"c"))
			} else {
				refuse(t, q+"a\\"+b+"c"+q, 0, 0, api.ErrString)
			}
		}
	}
}

func TestP1_2EachTwoDigits(t *testing.T) {
	const digits = "0123456789abcdef0123456789ABCDEF"
	for i := range 256 {
		for j := range 256 {
			high, low := strings.IndexByte(digits, byte(i)), strings.IndexByte(digits, byte(j))
			s := "'\\x" + string([]byte{byte(i), byte(j)}) + "'"
			if high < 0 || low < 0 {
				refuse(t, s, 0, 0, api.ErrString)
			} else {
				expect(t, s, 0, str(0, string([]byte{byte(high%16<<4 | low%16)})))
			}
		}
	}
}

func TestP1_2MaxText(t *testing.T) {
	full := strings.Repeat("a", api.MaxText)
	expect(t, "'"+full+"'", 0, str(0, full))
	expect(t, `"`+full+`" b`, 0, str(0, full), name(api.MaxText+3, "b"))
	refuse(t, " '"+full+"b'", 7, 8, api.ErrString)
	refuse(t, "'"+full+full+"' $", 0, 0, api.ErrString)
	// The limit is that of what is said, not of how it is said.
	escaped := strings.Repeat(`\x0a`, api.MaxText)
	expect(t, "'"+escaped+"'", 0, str(0, strings.Repeat("\n", api.MaxText)))
	refuse(t, "'"+escaped+`\n'`, 0, 0, api.ErrString)
	wide := strings.Repeat("é", api.MaxText/2)
	expect(t, "'"+wide+"'", 0, str(0, wide))
	refuse(t, "'"+wide+"é'", 0, 0, api.ErrString)
}

func TestP1_3QuoteOfEachByte(t *testing.T) {
	marks := map[int]string{10: `\n`, 9: `\t`, '\\': `\\`, '\'': `\'`}
	for i := range 256 {
		want, ok := marks[i]
		switch {
		case ok:
		case i >= 32 && i <= 126:
			want = string([]byte{byte(i)})
		default:
			want = fmt.Sprintf(`\x%02x`, i)
		}
		if q := scan.Quote(string([]byte{byte(i)})); q != "'"+want+"'" {
			t.Errorf("Quote of the byte %d: %s", i, q)
		}
	}
}

func TestP1_3Quotes(t *testing.T) {
	for s, want := range map[string]string{"": `''`, "a b": `'a b'`, `"`: `'"'`, "\x00\x1f\x7f\x80\xff": `'\x00\x1f\x7f\x80\xff'`, "é": `'\xc3\xa9'`, "\r\n": `'\x0d\n'`, `\n`: `'\\n'`, "it's": `'it\'s'`} {
		if q := scan.Quote(s); q != want {
			t.Errorf("Quote(%q): %s", s, q)
		}
	}
	long := strings.Repeat("'", 3*api.MaxText)
	if q := scan.Quote(long); q != "'"+strings.Repeat(`\'`, 3*api.MaxText)+"'" {
		t.Error("a text of any length is quoted")
	}
}

func TestP1_3Unquote(t *testing.T) {
	full := strings.Repeat("a", api.MaxText)
	for s, want := range map[string]string{`''`: "", `""`: "", `'a"'`: `a"`, `"a'"`: "a'", `"\'\""`: `'"`, `'\n\t\x4f\x4F'`: "\n\tOO", "'\xff'": "\xff", `'#'`: "#", "'" + full + "'": full} {
		if x, ok := scan.Unquote(s); x != want || !ok {
			t.Errorf("Unquote(%.40q): %.40q, %v", s, x, ok)
		}
	}
	for _, s := range []string{"", " ", "a", "1", "x'a'", "+", "#", "#''", "'", `"`, `'\'`, `'a"`, `"a'`, "'a' ", " 'a'", "'a'#", "'a'b", "'a''b'", `'a'"b"`, "'a'+", `'\q'`, `'\x4'`, `'\x4g'`, "'\n'", "'\x1f'", `''''`, "'" + full + "b'", "'a'\x00"} {
		if x, ok := scan.Unquote(s); x != "" || ok {
			t.Errorf("Unquote(%.40q): %.40q, %v", s, x, ok)
		}
	}
}

func TestP1_4WhatWasQuotedIsUnquoted(t *testing.T) {
	again := func(s string) {
		t.Helper()
		q := scan.Quote(s)
		if x, ok := scan.Unquote(q); x != s || !ok {
			t.Errorf("%.40q is quoted %.40s, and unquoted %.40q, %v", s, q, x, ok)
		}
		expect(t, q+"+"+q, 1, str(1, s), op(1+len(q), "+"), str(2+len(q), s))
	}
	for i := range 256 {
		for j := range 256 {
			again(string([]byte{byte(i), byte(j)}))
		}
		again(strings.Repeat(string([]byte{byte(i)}), api.MaxText))
	}
	if x, ok := scan.Unquote(scan.Quote(strings.Repeat("\n", api.MaxText+1))); ok || x != "" {
		t.Error("more than MaxText bytes are no str")
	}
}

func TestP1_4LinesOfTokens(t *testing.T) {
	texts := append(strings.Fields(allOperators), strings.Fields(allKeywords)...)
	texts = append(texts, "x", "_9", "0", "9223372036854775807", `'\''`, `"'"`, "'#'", `'a b'`)
	for _, blanks := range []string{" ", "   "} {
		line, want := "", []api.Tok(nil)
		for _, s := range texts {
			alone, _, e := scan.Line(s, len(line))
			if e != api.OK || len(alone) != 1 {
				t.Fatalf("%s: %v %d", s, alone, e)
			}
			want = append(want, alone[0])
			line += s + blanks
		}
		expect(t, line, 0, want...)
	}
}
