package text_test

import (
	"fmt"
	"math/rand"
	"strings"
	"testing"

	"krait/text"
)

func at(t *testing.T, s string, i int64, want, class string) {
	t.Helper()
	got, c := text.At(s, i)
	told(t, fmt.Sprintf("%.20q at %d", s, i), got, c, want, class)
}

func bounds(t *testing.T, n, from, to, low, high int64) {
	t.Helper()
	if l, h := text.Bounds(n, from, to); l != low || h != high {
		t.Errorf("of %d, %d to %d: %d, %d, want %d, %d", n, from, to, l, h, low, high)
	}
}

func slice(t *testing.T, s string, from, to int64, want string) {
	t.Helper()
	if got := text.Slice(s, from, to); got != want {
		t.Errorf("%.20q, %d to %d: %.60q, want %.60q", s, from, to, got, want)
	}
}

func TestP9_2At(t *testing.T) {
	for i, want := range []string{"a", "b", "c"} {
		at(t, "abc", int64(i), want, "")
		at(t, "abc", int64(i)-3, want, "")
	}
	for _, i := range []int64{3, 4, 5, 6, -4, -5, -6, -7, 255, 256, 1 << 31, 1 << 32, 1<<32 + 1, -1 << 32, 1<<32 - 1, greatest, greatest - 1, greatest - 3, least, least + 1, least + 3} {
		at(t, "abc", i, "", index)
	}
	for _, i := range near(1) {
		at(t, "", i, "", index)
	}
	at(t, "a", 0, "a", "")
	at(t, "a", -1, "a", "")
	at(t, "a", 1, "", index)
	at(t, "a", -2, "", index)
	// One byte, also of a rune that has more.
	at(t, "\u00e9", 0, "\xc3", "")
	at(t, "\u00e9", 1, "\xa9", "")
	at(t, "\u00e9", -2, "\xc3", "")
	at(t, "\u00e9", 2, "", index)
}

func TestP9_2EachByte(t *testing.T) {
	row := strings.Join(eachByte(), "")
	for i, b := range eachByte() {
		at(t, b, 0, b, "")
		at(t, b, -1, b, "")
		at(t, row, int64(i), b, "")
		at(t, row, int64(i)-256, b, "")
	}
	at(t, row, 256, "", index)
	at(t, row, -257, "", index)
}

func TestP9_2EachPlace(t *testing.T) {
	const bytes = "abcdefgh"
	for size := range len(bytes) {
		s := bytes[:size]
		for _, i := range near(int64(size), int64(2*size)) {
			want, class := modelAt(s, i)
			at(t, s, i, want, class)
		}
	}
	long := strings.Repeat("a", 1<<20) + "z"
	at(t, long, 1<<20, "z", "")
	at(t, long, -1, "z", "")
	at(t, long, 1<<20-1, "a", "")
	at(t, long, -1<<20-1, "a", "")
	at(t, long, 1<<20+1, "", index)
	at(t, long, -1<<20-2, "", index)
}

func TestP9_3Bounds(t *testing.T) {
	bounds(t, 5, 1, 4, 1, 4)
	bounds(t, 5, 1, -1, 1, 4)
	bounds(t, 5, -4, -1, 1, 4)
	bounds(t, 5, 0, 5, 0, 5)
	bounds(t, 5, 0, 0, 0, 0)
	bounds(t, 5, 5, 5, 5, 5)
	bounds(t, 5, 4, 2, 4, 4)
	bounds(t, 5, 4, -5, 4, 4)
	bounds(t, 5, -1, 0, 4, 4)
	bounds(t, 5, 5, 0, 5, 5)
	bounds(t, 5, 9, 2, 5, 5)
	bounds(t, 5, 9, 9, 5, 5)
	bounds(t, 5, 2, 9, 2, 5)
	bounds(t, 5, 6, 9, 5, 5)
	bounds(t, 5, -5, 9, 0, 5)
	bounds(t, 5, -6, 2, 0, 2)
	bounds(t, 5, -9, -6, 0, 0)
	bounds(t, 5, 2, -6, 2, 2)
	bounds(t, 5, 2, -9, 2, 2)
	bounds(t, 5, 2, -3, 2, 2)
	bounds(t, 5, 2, -2, 2, 3)
	bounds(t, 5, least, greatest, 0, 5)
	bounds(t, 5, greatest, least, 5, 5)
	bounds(t, 5, least, least, 0, 0)
	bounds(t, 5, greatest, greatest, 5, 5)
	bounds(t, 5, 3, greatest, 3, 5)
	bounds(t, 5, 3, least, 3, 3)
	bounds(t, 0, 0, 0, 0, 0)
	bounds(t, 0, 1, 2, 0, 0)
	bounds(t, 0, -2, -1, 0, 0)
	bounds(t, 0, least, greatest, 0, 0)
	bounds(t, 1, 0, 1, 0, 1)
	bounds(t, 1, -1, 1, 0, 1)
	bounds(t, 1, 0, -1, 0, 0)
	// n below 0 counts as 0, also where places count from the end.
	for _, n := range []int64{-1, -2, -5, -1 << 32, least + 1, least} {
		bounds(t, n, 0, 5, 0, 0)
		bounds(t, n, 1, 2, 0, 0)
		bounds(t, n, -1, -1, 0, 0)
		bounds(t, n, n, -n, 0, 0)
		bounds(t, n, least, greatest, 0, 0)
		bounds(t, n, greatest, least, 0, 0)
	}
	bounds(t, greatest, 0, greatest, 0, greatest)
	bounds(t, greatest, -1, greatest, greatest-1, greatest)
	bounds(t, greatest, -greatest, -1, 0, greatest-1)
	bounds(t, greatest, least, -1, 0, greatest-1)
	bounds(t, greatest, 1, -greatest, 1, 1)
	bounds(t, greatest, greatest, greatest, greatest, greatest)
	bounds(t, greatest-1, greatest, greatest, greatest-1, greatest-1)
	bounds(t, 1<<62, -1<<62, 1<<62, 0, 1<<62)
	bounds(t, 1<<62, -1<<62-1, 1<<62+1, 0, 1<<62)
}

func TestP9_3BoundsOfAny(t *testing.T) {
	hold := func(n, from, to int64) {
		t.Helper()
		low, high := modelBounds(n, from, to)
		bounds(t, n, from, to, low, high)
	}
	for n := int64(-3); n < 9; n++ {
		for from := int64(-20); from < 20; from++ {
			for to := int64(-20); to < 20; to++ {
				hold(n, from, to)
			}
		}
	}
	ends := near(5, 4096, 1<<31, 1<<62)
	for _, n := range ends {
		for _, from := range ends {
			for _, to := range ends {
				hold(n, from, to)
			}
		}
	}
	r := rand.New(rand.NewSource(93))
	for range 100000 {
		n, from, to := anyInt(r), anyInt(r), anyInt(r)
		hold(n, from, to)
		hold(n, n+from>>32, n+to>>32)
		hold(n, -n+from>>32, to>>32-n)
	}
}

func TestP9_3Slice(t *testing.T) {
	slice(t, "abcde", 1, -1, "bcd")
	slice(t, "abcde", 4, 2, "")
	slice(t, "abcde", 0, 5, "abcde")
	slice(t, "abcde", 0, greatest, "abcde")
	slice(t, "abcde", least, greatest, "abcde")
	slice(t, "abcde", greatest, least, "")
	slice(t, "abcde", least, least, "")
	slice(t, "abcde", greatest, greatest, "")
	slice(t, "abcde", -2, greatest, "de")
	slice(t, "abcde", -9, 2, "ab")
	slice(t, "abcde", 2, 3, "c")
	slice(t, "abcde", 2, 2, "")
	slice(t, "abcde", 5, 6, "")
	slice(t, "abcde", -1, 0, "")
	slice(t, "", 0, 0, "")
	slice(t, "", least, greatest, "")
	slice(t, "", -1, 1, "")
	slice(t, "\u00e9\x00\xff", 1, 3, "\xa9\x00")
	slice(t, "\u00e9\x00\xff", -1, 4, "\xff")
	long := strings.Repeat("ab", 1<<20)
	slice(t, long, 0, greatest, long)
	slice(t, long, 1, 1<<20+1, strings.Repeat("ba", 1<<19))
	slice(t, long, -3, greatest, "bab")
}

func TestP9_3EachSlice(t *testing.T) {
	const bytes = "ab\x00\xff\xc3\xa9g"
	for size := range len(bytes) + 1 {
		s := bytes[:size]
		for _, from := range near(3, int64(size)) {
			for _, to := range near(3, int64(size)) {
				slice(t, s, from, to, modelSlice(s, from, to))
			}
		}
	}
}

// A slice up to a place, and one from there on, are the whole, wherever that place is.
func TestP9_6SlicesAreTheWhole(t *testing.T) {
	for _, s := range append(eachText("ab\xff", 4), "\u00e9\U00010000", strings.Repeat("abc", 5000)) {
		for _, place := range near(1, int64(len(s))/2, int64(len(s))) {
			front, rest := text.Slice(s, 0, place), text.Slice(s, place, greatest)
			if front+rest != s {
				t.Errorf("%.20q at %d: %.20q, %.20q", s, place, front, rest)
			}
			if front, rest := text.Slice(s, least, place), text.Slice(s, place, int64(len(s))); front+rest != s {
				t.Errorf("%.20q at %d: %.20q, %.20q", s, place, front, rest)
			}
		}
	}
}

// A byte is a slice of one, and the slice of the places of a str are its bytes.
func TestP9_6BytesAreTheWhole(t *testing.T) {
	for _, s := range eachText("ab\xc3\xa9", 4) {
		var all strings.Builder
		for i := range int64(len(s)) {
			b, class := text.At(s, i)
			if class != "" || b != text.Slice(s, i, i+1) {
				t.Errorf("%q at %d: %q, %q, %q", s, i, b, class, text.Slice(s, i, i+1))
			}
			all.WriteString(b)
		}
		if all.String() != s {
			t.Errorf("%q: %q", s, all.String())
		}
	}
}
