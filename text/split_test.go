package text_test

import (
	"fmt"
	"math/rand"
	"slices"
	"strings"
	"testing"

	"krait/text"
)

func join(t *testing.T, sep string, l []string, want, class string) {
	t.Helper()
	got, c := text.Join(sep, l)
	told(t, fmt.Sprintf("%.20q joins %d", sep, len(l)), got, c, want, class)
}

func split(t *testing.T, s, sep string, want ...string) {
	t.Helper()
	if l, class := text.Split(s, sep); !slices.Equal(l, want) || class != "" {
		t.Errorf("%.40q by %.40q: %.100q (%d), %q, want %.100q (%d)", s, sep, l, len(l), class, want, len(want))
	}
}

func splitNone(t *testing.T, s, sep, class string) {
	t.Helper()
	if l, c := text.Split(s, sep); len(l) != 0 || c != class {
		t.Errorf("%.40q by %.40q: %.100q (%d), %q, want %s", s, sep, l, len(l), c, class)
	}
}

func holdSplit(t *testing.T, s, sep string) {
	t.Helper()
	if want, class := modelSplit(s, sep); class != "" {
		splitNone(t, s, sep, class)
	} else {
		split(t, s, sep, want...)
	}
}

func TestP9_4Join(t *testing.T) {
	join(t, ",", nil, "", "")
	join(t, ",", []string{}, "", "")
	join(t, "", nil, "", "")
	join(t, ",", []string{"ab"}, "ab", "")
	join(t, ",", []string{""}, "", "")
	join(t, ",", []string{"a", "b"}, "a,b", "")
	join(t, ",", []string{"a", "b", "c"}, "a,b,c", "")
	join(t, ",", []string{"", ""}, ",", "")
	join(t, ",", []string{"", "a", ""}, ",a,", "")
	join(t, ",", []string{"c", "a", "b", "a"}, "c,a,b,a", "")
	join(t, "", []string{"a", "b", "c"}, "abc", "")
	join(t, "", []string{"", "", ""}, "", "")
	join(t, ", ", []string{"a", "b", "c"}, "a, b, c", "")
	join(t, ",", []string{",", ","}, ",,,", "")
	join(t, "\x00\xff", []string{"\xc3", "\xa9"}, "\xc3\x00\xff\xa9", "")
	join(t, "", []string{"\xc3", "\xa9"}, "\u00e9", "")
	for _, b := range eachByte() {
		join(t, b, []string{"a", b, "c"}, "a"+b+b+b+"c", "")
	}
}

func TestP9_4JoinAtTheLimit(t *testing.T) {
	full := strings.Repeat("a", 65536)
	join(t, ",", []string{full}, full, "")
	join(t, ",", []string{full + "a"}, "", memory)
	join(t, "", []string{full, "", ""}, full, "")
	join(t, "", []string{"", full, ""}, full, "")
	join(t, "", []string{"", "", full + "a"}, "", memory)
	join(t, "", []string{full, "", "a"}, "", memory)
	join(t, "", []string{full[:30000], full[:35536]}, full, "")
	join(t, "", []string{full[:30000], full[:35537]}, "", memory)
	join(t, ",", []string{full[:30000], full[:35535]}, full[:30000]+","+full[:35535], "")
	join(t, ",", []string{full[:30000], full[:35536]}, "", memory)
	join(t, ",", []string{full, ""}, "", memory)
	join(t, ",", []string{"", full}, "", memory)
	// What stands between counts, but only between: one str has none.
	join(t, full, []string{"", ""}, full, "")
	join(t, full, []string{"", "a"}, "", memory)
	join(t, full, []string{"a", ""}, "", memory)
	join(t, full, []string{"", "", ""}, "", memory)
	join(t, full+full, []string{"ab"}, "ab", "")
	join(t, full+full, nil, "", "")
	join(t, full+full, []string{"", ""}, "", memory)
	// The limit is that of the bytes, not of how many strs there are.
	join(t, "", make([]string, 1<<20), "", "")
	join(t, "ab", make([]string, 32769), strings.Repeat("ab", 32768), "")
	join(t, "ab", make([]string, 32770), "", memory)
	join(t, "ab", make([]string, 1<<20), "", memory)
	join(t, ",", slices.Repeat([]string{"a"}, 32768), strings.Repeat("a,", 32767)+"a", "")
	join(t, ",", slices.Repeat([]string{"a"}, 32769), "", memory)
	join(t, "", slices.Repeat([]string{full}, 1<<16), "", memory)
	join(t, full, slices.Repeat([]string{full}, 1<<16), "", memory)
}

func TestP9_4JoinOfAny(t *testing.T) {
	r := rand.New(rand.NewSource(94))
	for range 20000 {
		l := make([]string, r.Intn(6))
		for i := range l {
			l[i] = anyText(r, "ab,\xff", 5)
		}
		sep := anyText(r, "a,", 4)
		want, class := modelJoin(sep, l)
		join(t, sep, l, want, class)
	}
	for range 400 {
		l := make([]string, r.Intn(400))
		for i := range l {
			l[i] = strings.Repeat("a", r.Intn(500))
		}
		sep := strings.Repeat(",", r.Intn(30))
		want, class := modelJoin(sep, l)
		join(t, sep, l, want, class)
	}
}

func TestP9_4Split(t *testing.T) {
	split(t, "a,,b", ",", "a", "", "b")
	split(t, "aaa", "aa", "", "a")
	split(t, "", ",", "")
	split(t, "abc", ",", "abc")
	split(t, ",", ",", "", "")
	split(t, ",,", ",", "", "", "")
	split(t, ",a", ",", "", "a")
	split(t, "a,", ",", "a", "")
	split(t, ",a,b,", ",", "", "a", "b", "")
	split(t, "a, b,c", ", ", "a", "b,c")
	split(t, "abc", "abc", "", "")
	split(t, "abc", "abcd", "abc")
	split(t, "", "abcd", "")
	split(t, "abcab", "abc", "", "ab")
	split(t, "ab", "ba", "ab")
	// What lies upon itself is found behind the place ahead of it.
	split(t, "aa", "aa", "", "")
	split(t, "aaaa", "aa", "", "", "")
	split(t, "aaaaa", "aa", "", "", "a")
	split(t, "aaaaa", "aaa", "", "aa")
	split(t, "abababa", "aba", "", "b", "")
	split(t, "xabababax", "aba", "x", "b", "x")
	split(t, "abababababx", "abab", "", "", "abx")
	// A beginning of it that goes astray is no loss of the one that began within.
	split(t, "aabx", "ab", "a", "x")
	split(t, "aaab", "aab", "a", "")
	split(t, "abaababaab", "abaab", "", "", "")
	split(t, "ababac", "abac", "ab", "")
	split(t, "abacabababacababacab", "abacabab", "", "", "acab")
	split(t, "abcabcabdx", "abcabd", "abc", "x")
	split(t, "\x00a\x00\xff\x00", "\x00", "", "a", "\xff", "")
	split(t, "\u00e9\u00e9", "\xa9", "\xc3", "\xc3", "")
	for _, s := range []string{"", "a", "abc", strings.Repeat("a", 5000), strings.Repeat("a", 1<<20)} {
		splitNone(t, s, "", wrong)
	}
	for _, b := range eachByte() {
		split(t, "12"+b+"3"+b, b, modelPieces("12"+b+"3"+b, b)...)
		split(t, b, b, "", "")
	}
}

func modelPieces(s, sep string) []string {
	l, _ := modelSplit(s, sep)
	return l
}

func TestP9_4SplitAtTheLimit(t *testing.T) {
	split(t, strings.Repeat(",", 4095), ",", make([]string, 4096)...)
	splitNone(t, strings.Repeat(",", 4096), ",", memory)
	split(t, strings.Repeat("a,", 4095), ",", append(slices.Repeat([]string{"a"}, 4095), "")...)
	split(t, strings.Repeat("a,", 4095)+"a", ",", slices.Repeat([]string{"a"}, 4096)...)
	splitNone(t, strings.Repeat("a,", 4096), ",", memory)
	splitNone(t, strings.Repeat("a,", 4096)+"a", ",", memory)
	split(t, strings.Repeat("aab", 4095), "ab", append(slices.Repeat([]string{"a"}, 4095), "")...)
	splitNone(t, strings.Repeat("aab", 4096), "ab", memory)
	split(t, strings.Repeat("a", 2*4095+1), "aa", append(make([]string, 4095), "a")...)
	splitNone(t, strings.Repeat("a", 2*4096), "aa", memory)
	splitNone(t, strings.Repeat(",", 1<<22), ",", memory)
	// The limit is that of the strs, not of the bytes.
	long := strings.Repeat("a", 1<<20)
	split(t, long, ",", long)
	split(t, long+","+long+",", ",", long, long, "")
	split(t, long, long, "", "")
	split(t, long, long+"a", long)
}

func TestP9_4SplitEachShortText(t *testing.T) {
	for _, s := range eachText("ab", 10) {
		for _, sep := range eachText("ab", 5) {
			holdSplit(t, s, sep)
		}
	}
	for _, s := range eachText("ab,", 6) {
		for _, sep := range eachText("ab,", 3) {
			holdSplit(t, s, sep)
		}
	}
	r := rand.New(rand.NewSource(940))
	for range 20000 {
		part := anyText(r, "ab", 6)
		holdSplit(t, anyText(r, "ab", 60)+strings.Repeat(part, r.Intn(5))+anyText(r, "ab", 60), part+anyText(r, "ab", 4))
	}
}

// However much of it lies upon itself, each byte is looked at but a few times.
func TestP9_4SplitLongTexts(t *testing.T) {
	half := strings.Repeat("a", 1<<20)
	split(t, half+half, half+"b", half+half)
	split(t, half+half+"b", half+"b", half, "")
	split(t, half+half+"bc", half+"b", half, "c")
	split(t, half+half+"a", half, "", "", "a")
	split(t, half+"b"+half, "b"+half, half, "")
}

func TestP9_6SplitAndJoined(t *testing.T) {
	hold := func(s, sep string) {
		t.Helper()
		l, class := text.Split(s, sep)
		if again, c := text.Join(sep, l); class != "" || c != "" || again != s {
			t.Errorf("%.40q by %.40q: %.100q, %q, joined %.40q, %q", s, sep, l, class, again, c)
		}
		for _, piece := range l {
			if text.Find(piece, sep) != -1 {
				t.Errorf("%.40q by %.40q: %.40q", s, sep, piece)
			}
		}
	}
	for _, s := range eachText("ab,", 6) {
		for _, sep := range eachText("ab,", 3)[1:] {
			hold(s, sep)
		}
	}
	r := rand.New(rand.NewSource(96))
	for range 5000 {
		hold(anyText(r, "abc\x00\xff", 200), anyText(r, "abc\x00\xff", 3)+"a")
	}
	hold(strings.Repeat("abcdefghijklmno,", 4095), ",")
	hold(strings.Repeat("a", 65536), strings.Repeat("a", 17))
}

// What is handed in stays as it is, and what is told is the caller's.
func TestP9_4RowsAreNotShared(t *testing.T) {
	l := []string{"a", "b", "c"}
	join(t, ",", l, "a,b,c", "")
	if !slices.Equal(l, []string{"a", "b", "c"}) {
		t.Errorf("joined: %q", l)
	}
	first, _ := text.Split("a,b", ",")
	first[0], first[1] = "x", "y"
	split(t, "a,b", ",", "a", "b")
}
