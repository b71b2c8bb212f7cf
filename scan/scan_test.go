package scan_test

import (
	"math"
	"slices"
	"strings"
	"testing"

	"krait/api"
	"krait/scan"
)

const allOperators = "+ - * // % ** == != < <= > >= = += -= *= //= %= **= ( ) [ ] { } , : ."

func name(at int, s string) api.Tok { return api.Tok{Kind: api.TokName, At: at, Text: s} }

func integer(at int, n int64) api.Tok { return api.Tok{Kind: api.TokInt, At: at, N: n} }

func str(at int, s string) api.Tok { return api.Tok{Kind: api.TokStr, At: at, Text: s} }

func op(at int, s string) api.Tok { return api.Tok{Kind: api.TokOp, At: at, Text: s} }

func expect(t *testing.T, s string, at int, want ...api.Tok) {
	t.Helper()
	got, place, e := scan.Line(s, at)
	if e != api.OK || place != 0 || !slices.Equal(got, want) {
		t.Errorf("Line(%.40q, %d): %v, %d, %d; want %v", s, at, got, place, e, want)
	}
}

func refuse(t *testing.T, s string, at, place int, e api.Errno) {
	t.Helper()
	l, p, got := scan.Line(s, at)
	if l != nil || p != place || got != e {
		t.Errorf("Line(%.40q, %d): %v, %d, %d; want none, %d, %d", s, at, l, p, got, place, e)
	}
}

func TestP1_2Example(t *testing.T) {
	expect(t, "x**=10 # y", 0, name(0, "x"), op(1, "**="), integer(4, 10))
}

func TestP1_2OrdinaryLines(t *testing.T) {
	expect(t, "def f(a, b=2):", 0, name(0, "def"), name(4, "f"), op(5, "("), name(6, "a"), op(7, ","), name(9, "b"), op(10, "="), integer(11, 2), op(12, ")"), op(13, ":"))
	expect(t, "return -a.b[1:2]//{'k': \"v\"}", 0, name(0, "return"), op(7, "-"), name(8, "a"), op(9, "."), name(10, "b"), op(11, "["), integer(12, 1), op(13, ":"), integer(14, 2), op(15, "]"), op(16, "//"), op(18, "{"), str(19, "k"), op(22, ":"), str(24, "v"), op(27, "}"))
	expect(t, "not_ not None", 0, name(0, "not_"), name(5, "not"), name(9, "None"))
	expect(t, "a'b'c\"d\"1", 0, name(0, "a"), str(1, "b"), name(4, "c"), str(5, "d"), integer(8, 1))
	expect(t, "'1'2", 0, str(0, "1"), integer(3, 2))
	expect(t, "x_1_", 0, name(0, "x_1_"))
	expect(t, "_", 0, name(0, "_"))
}

func TestP1_2Places(t *testing.T) {
	for _, at := range []int{0, 1, 100, -7, 1 << 40, math.MinInt} {
		expect(t, " ab  'c' 1", at, name(at+1, "ab"), str(at+5, "c"), integer(at+9, 1))
		refuse(t, "ab  $", at, at+4, api.ErrByte)
		refuse(t, "ab 1x", at, at+3, api.ErrNumber)
		refuse(t, " 'ab\\", at, at+1, api.ErrString)
	}
	last := math.MaxInt
	expect(t, "a b", last, name(last, "a"), name(last+2, "b"))
	refuse(t, "a $", last, math.MinInt+1, api.ErrByte)
}

func TestP1_2BlanksAndComments(t *testing.T) {
	for _, s := range []string{"", " ", "      ", "#", "  # x", "#'", "# $ 01 \t\n '"} {
		expect(t, s, 5)
	}
	expect(t, "a#b", 0, name(0, "a"))
	expect(t, "1#", 0, integer(0, 1))
	expect(t, "'#'#'", 0, str(0, "#"))
	expect(t, "+#=", 0, op(0, "+"))
	expect(t, "a"+strings.Repeat(" ", 1000)+"b", 0, name(0, "a"), name(1001, "b"))
	for _, s := range []string{"a\tb", "a\nb", "a\rb", "a\x00b", "a\vb", "a\xa0b", "a\u00a0b"} {
		refuse(t, s, 0, 1, api.ErrByte)
	}
}

func TestP1_2EachFirstByte(t *testing.T) {
	for i := range 256 {
		b := string([]byte{byte(i)})
		switch {
		case b == " " || b == "#":
			expect(t, b, 3)
		case i >= '0' && i <= '9':
			expect(t, b, 3, integer(3, int64(i-'0')))
		case strings.Contains(wordBytes, b):
			expect(t, b, 3, name(3, b))
		case b == "'" || b == `"`:
			refuse(t, b, 3, 3, api.ErrString)
		case slices.Contains(strings.Fields(allOperators), b):
			expect(t, b, 3, op(3, b))
		default:
			refuse(t, b, 3, 3, api.ErrByte)
		}
	}
}

func TestP1_2Ints(t *testing.T) {
	for s, n := range map[string]int64{"0": 0, "9": 9, "10": 10, "1234567890": 1234567890, "999999999999999999": 999999999999999999, "9223372036854775806": math.MaxInt64 - 1, "9223372036854775807": math.MaxInt64} {
		expect(t, s, 0, integer(0, n))
		expect(t, "-"+s+".x", 0, op(0, "-"), integer(1, n), op(1+len(s), "."), name(2+len(s), "x"))
	}
	wrong := []string{"00", "01", "09", "0x1f", "0b1", "0o7", "0_", "0a", "000", "1_0", "1_", "12ab", "1e5", "9223372036854775808", "9223372036854775810", "9999999999999999999", "18446744073709551615", "18446744073709551616", "10000000000000000000000", "00000000000000000000001", "1" + strings.Repeat("0", 100000)}
	for _, s := range wrong {
		refuse(t, s, 0, 0, api.ErrNumber)
		refuse(t, "a = "+s+" $", 10, 14, api.ErrNumber)
	}
	expect(t, "1.2", 0, integer(0, 1), op(1, "."), integer(2, 2))
	expect(t, "0 0", 0, integer(0, 0), integer(2, 0))
	expect(t, "0.0", 0, integer(0, 0), op(1, "."), integer(2, 0))
	expect(t, "1'a'", 0, integer(0, 1), str(1, "a"))
	refuse(t, "1\xc3\xa9", 0, 1, api.ErrByte)
}

func TestP1_2OperatorsNextToEachOther(t *testing.T) {
	ops := strings.Fields(allOperators)
	for _, a := range ops {
		expect(t, a, 0, op(0, a))
		expect(t, a+"x"+a, 0, op(0, a), name(len(a), "x"), op(len(a)+1, a))
		for _, b := range ops {
			expect(t, a+" "+b, 0, op(0, a), op(len(a)+1, b))
			want, ok := greedy(a+b, ops)
			if ok {
				expect(t, a+b, 0, want...)
			} else {
				refuse(t, a+b, 0, len(a+b)-1, api.ErrByte)
			}
		}
	}
	expect(t, "***", 0, op(0, "**"), op(2, "*"))
	expect(t, "**==", 0, op(0, "**="), op(3, "="))
	expect(t, "===", 0, op(0, "=="), op(2, "="))
	expect(t, "<==", 0, op(0, "<="), op(2, "="))
	expect(t, "<>", 0, op(0, "<"), op(1, ">"))
	expect(t, "=-1", 0, op(0, "="), op(1, "-"), integer(2, 1))
	expect(t, "-=1", 0, op(0, "-="), integer(2, 1))
	refuse(t, "///", 0, 2, api.ErrByte)
	refuse(t, "/=", 0, 0, api.ErrByte)
	refuse(t, "a/b", 0, 1, api.ErrByte)
	refuse(t, "!", 0, 0, api.ErrByte)
	refuse(t, "! =", 0, 0, api.ErrByte)
}

// greedy takes the longest of ops again and again; false: none fits.
func greedy(s string, ops []string) ([]api.Tok, bool) {
	var l []api.Tok
	for at := 0; at < len(s); {
		best := ""
		for _, o := range ops {
			if len(o) > len(best) && strings.HasPrefix(s[at:], o) {
				best = o
			}
		}
		if best == "" {
			return nil, false
		}
		l = append(l, op(at, best))
		at += len(best)
	}
	return l, true
}

func TestP1_2TheFirstErrorIsTold(t *testing.T) {
	refuse(t, "a 01 $ '", 0, 2, api.ErrNumber)
	refuse(t, "a $ 01 '", 0, 2, api.ErrByte)
	refuse(t, "a ' $ 01", 0, 2, api.ErrString)
	refuse(t, "'\t' $", 0, 0, api.ErrString)
	refuse(t, "a = (1, 2) $ # x", 20, 31, api.ErrByte)
	for _, b := range []string{"$", "?", "@", "`", "~", "!", "&", "|", "^", ";", "/", "\\", "\x7f", "\x80", "\xff", "\xc3\xa9", "\t", "\n", "\r", "\x00"} {
		refuse(t, "ab"+b, 0, 2, api.ErrByte)
		refuse(t, "ab "+b+"'", 0, 3, api.ErrByte)
	}
}

func TestP1AnythingEnds(t *testing.T) {
	const alphabet = "a0' \"\\x#*=/!\n\xff9"
	var each func(s string, more int)
	each = func(s string, more int) {
		look(t, s)
		if more == 0 {
			return
		}
		for i := range len(alphabet) {
			each(s+alphabet[i:i+1], more-1)
		}
	}
	each("", 4)
}

// look holds what is told of any line against what holds of all.
func look(t *testing.T, s string) {
	scan.Name(s)
	scan.Keyword(s)
	if x, ok := scan.Unquote(s); !ok && x != "" {
		t.Errorf("Unquote(%q): %q beside false", s, x)
	}
	l, at, e := scan.Line(s, 9)
	if e != api.OK {
		if l != nil || at < 9 || at >= 9+len(s) {
			t.Errorf("Line(%q): %v, %d", s, l, at)
		}
		if ahead, _, e := scan.Line(s[:at-9], 9); e != api.OK {
			t.Errorf("Line(%q): wrong ahead of its place, too: %v %d", s, ahead, e)
		}
		return
	}
	if at != 0 {
		t.Errorf("Line(%q): place %d without an error", s, at)
	}
	for i, k := range l {
		end := len(s)
		if i+1 < len(l) {
			end = l[i+1].At - 9
		}
		alone, _, e := scan.Line(s[k.At-9:end], k.At)
		if e != api.OK || len(alone) != 1 || alone[0] != k {
			t.Errorf("Line(%q): %v, alone %v", s, k, alone)
		}
	}
}
