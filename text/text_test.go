package text_test

import (
	"fmt"
	"math/big"
	"math/rand"
	"slices"
	"strings"
	"testing"

	"krait/text"
)

func concat(t *testing.T, a, b, want, class string) {
	t.Helper()
	s, c := text.Concat(a, b)
	told(t, fmt.Sprintf("%.20q + %.20q", a, b), s, c, want, class)
}

func repeat(t *testing.T, s string, n int64, want, class string) {
	t.Helper()
	got, c := text.Repeat(s, n)
	told(t, fmt.Sprintf("%.20q * %d", s, n), got, c, want, class)
}

func TestP9_1Concat(t *testing.T) {
	concat(t, "", "", "", "")
	concat(t, "a", "", "a", "")
	concat(t, "", "a", "a", "")
	concat(t, "ab", "cd", "abcd", "")
	concat(t, "cd", "ab", "cdab", "")
	concat(t, "a\x00\n", "\xff\xc3\xa9 ", "a\x00\n\xff\xc3\xa9 ", "")
	// Bytes are put together, whatever runes they make.
	concat(t, "\xc3", "\xa9", "\u00e9", "")
	for _, a := range eachByte() {
		for _, b := range eachByte() {
			concat(t, a, b, string([]byte{a[0], b[0]}), "")
		}
	}
}

func TestP9_1ConcatAtTheLimit(t *testing.T) {
	full := strings.Repeat("abcd", 16384)
	for _, n := range []int{0, 1, 2, 255, 4096, 32767, 32768, 32769, 65534, 65535, 65536} {
		concat(t, full[:n], full[n:], full, "")
		concat(t, full[:n], full[n:]+"e", "", memory)
		concat(t, full[:n]+"e", full[n:], "", memory)
	}
	concat(t, full+"e", "", "", memory)
	concat(t, "", full+"e", "", memory)
	concat(t, full, full, "", memory)
	long := strings.Repeat("a", 1<<24)
	concat(t, long, "", "", memory)
	concat(t, "", long, "", memory)
	concat(t, long, long, "", memory)
}

func TestP9_1Repeat(t *testing.T) {
	repeat(t, "ab", 3, "ababab", "")
	repeat(t, "ab", 1, "ab", "")
	repeat(t, "ab", 2, "abab", "")
	repeat(t, "a\x00\xff", 2, "a\x00\xffa\x00\xff", "")
	for _, s := range []string{"", "a", "ab", strings.Repeat("a", 65536), strings.Repeat("a", 65537), strings.Repeat("a", 1<<20)} {
		for _, n := range []int64{0, -1, -2, -65536, -1 << 31, -1 << 32, least + 1, least} {
			repeat(t, s, n, "", "")
		}
	}
	for _, n := range near(65536, 1<<31, 1<<32) {
		repeat(t, "", n, "", "")
	}
}

func TestP9_1RepeatAtTheLimit(t *testing.T) {
	for _, size := range []int{1, 2, 3, 4, 5, 7, 16, 255, 256, 257, 1000, 21845, 21846, 32767, 32768, 32769, 65535, 65536, 65537, 70000, 1 << 17} {
		s := strings.Repeat("abcdefg", size/7+1)[:size]
		most := int64(65536 / size)
		for n := max(most-2, 1); n <= most; n++ {
			var all strings.Builder
			for range n {
				all.WriteString(s)
			}
			repeat(t, s, n, all.String(), "")
		}
		for n := most + 1; n <= most+3; n++ {
			repeat(t, s, n, "", memory)
		}
	}
	repeat(t, "ab", 40000, "", memory)
	repeat(t, strings.Repeat("a", 65537), 1, "", memory)
}

// No product is too great to be asked for, also where it goes round to a small one.
func TestP9_1RepeatGreatly(t *testing.T) {
	for _, size := range []int{1, 2, 3, 4, 7, 8, 16, 255, 256, 4096, 32768, 65536, 65537, 1 << 17, 1 << 20} {
		s := strings.Repeat("a", size)
		for _, n := range near(65536, 1<<20, 1<<31, 1<<32, 1<<47, 1<<48, 1<<60, 1<<61, 1<<62, 1229782938247303441, 2635249153387078803, 6148914691236517205) {
			want, class := "", ""
			product := new(big.Int).Mul(big.NewInt(n), big.NewInt(int64(size)))
			switch {
			case n < 1:
			case product.Cmp(big.NewInt(65536)) > 0:
				class = memory
			default:
				want = strings.Repeat("a", int(product.Int64()))
			}
			repeat(t, s, n, want, class)
		}
	}
}

func compare(t *testing.T, a, b string, want int) {
	t.Helper()
	if n := text.Compare(a, b); n != want {
		t.Errorf("%.40q (%d bytes) to %.40q (%d bytes): %d, want %d", a, len(a), b, len(b), n, want)
	}
	if n := text.Compare(b, a); n != -want {
		t.Errorf("%.40q (%d bytes) to %.40q (%d bytes): %d, want %d", b, len(b), a, len(a), n, -want)
	}
}

func TestP9_5Compare(t *testing.T) {
	compare(t, "", "", 0)
	compare(t, "abc", "abc", 0)
	compare(t, "", "a", -1)
	compare(t, "", "\x00", -1)
	compare(t, "a", "a\x00", -1)
	compare(t, "ab", "abc", -1)
	compare(t, "ab", "abcdefgh", -1)
	compare(t, "abd", "abcdefgh", 1)
	compare(t, "b", "abc", 1)
	compare(t, "B", "abc", -1)
	compare(t, "10", "9", -1)
	compare(t, "ab", "ac", -1)
	compare(t, "abz", "acb", -1)
	compare(t, "zb", "za", 1)
	// Bytes, not runes, nor bytes with a sign, are held against each other.
	compare(t, "a", "\x80", -1)
	compare(t, "\x7f", "\x80", -1)
	compare(t, "\x7f", "\xff", -1)
	compare(t, "\x00", "\xff", -1)
	compare(t, "\xfe", "\xff", -1)
	compare(t, "\x80", "\xc3\xa9", -1)
	compare(t, "\uffff", "\U00010000", -1)
	compare(t, "\xff", "\uffff", 1)
	long := strings.Repeat("ab", 1<<20)
	compare(t, long, strings.Repeat("ab", 1<<20), 0)
	compare(t, long, long+"a", -1)
	compare(t, long+"b", long+"a", 1)
	compare(t, "b", long, 1)
}

func TestP9_5CompareEachBytes(t *testing.T) {
	for i, a := range eachByte() {
		for j, b := range eachByte() {
			want := 0
			switch {
			case i < j:
				want = -1
			case i > j:
				want = 1
			}
			compare(t, a, b, want)
			compare(t, "x\xff"+a, "x\xff"+b, want)
			if want != 0 {
				compare(t, a+"\xff", b, want)
				compare(t, a, b+"\xff", want)
				compare(t, a+"a", b+"b", want)
				compare(t, a+"b", b+"a", want)
			}
		}
	}
}

func TestP9_5CompareEachShortText(t *testing.T) {
	all := eachText("a\x00\xc3\x80", 4)
	for _, a := range all {
		for _, b := range all {
			if n, want := text.Compare(a, b), modelCompare(a, b); n != want {
				t.Errorf("%q to %q: %d, want %d", a, b, n, want)
			}
		}
	}
	r := rand.New(rand.NewSource(95))
	for range 20000 {
		a, b, c := anyText(r, "ab", 40), anyText(r, "ab\xff", 3), anyText(r, "ab\xff", 3)
		compare(t, a+b, a+c, modelCompare(b, c))
	}
}

// Any two are told the same either way about, none but a str itself is equal to it, and what is ahead of one is ahead of all behind that.
func TestP9_6CompareIsAnOrder(t *testing.T) {
	all := eachText("\x00b\xff", 3)
	for _, a := range all {
		for _, b := range all {
			ab := text.Compare(a, b)
			if ab != -text.Compare(b, a) || (ab == 0) != (a == b) {
				t.Errorf("%q, %q: %d, %d", a, b, ab, text.Compare(b, a))
			}
			for _, c := range all {
				if bc := text.Compare(b, c); ab <= 0 && bc <= 0 && text.Compare(a, c) != min(ab, bc) {
					t.Errorf("%q, %q, %q: %d, %d, %d", a, b, c, ab, bc, text.Compare(a, c))
				}
			}
		}
	}
	sorted := slices.Clone(all)
	slices.SortFunc(sorted, text.Compare)
	slices.Sort(all)
	if !slices.Equal(sorted, all) {
		t.Errorf("sorted: %q", sorted)
	}
}
