package text_test

import (
	"math/rand"
	"strings"
	"testing"

	"krait/text"
)

func find(t *testing.T, s, sub string, want int64) {
	t.Helper()
	if n := text.Find(s, sub); n != want {
		t.Errorf("%.40q (%d bytes) in %.40q (%d bytes): %d, want %d", sub, len(sub), s, len(s), n, want)
	}
}

func TestP9_5Find(t *testing.T) {
	find(t, "abcabc", "abc", 0)
	find(t, "abcabc", "bc", 1)
	find(t, "abcabc", "ca", 2)
	find(t, "xabcabc", "abc", 1)
	find(t, "abcabc", "c", 2)
	find(t, "abc", "c", 2)
	find(t, "abc", "abc", 0)
	find(t, "abc", "d", -1)
	find(t, "abc", "ac", -1)
	find(t, "abc", "cb", -1)
	find(t, "abc", "abd", -1)
	find(t, "abc", "abcd", -1)
	find(t, "bc", "abc", -1)
	find(t, "", "a", -1)
	find(t, "", "", 0)
	find(t, "abc", "", 0)
	find(t, "a", "a", 0)
	find(t, "a", "A", -1)
	// A beginning of it that goes astray is no loss of the one that began within.
	find(t, "aab", "ab", 1)
	find(t, "aaab", "aab", 1)
	find(t, "ababac", "abac", 2)
	find(t, "abababc", "ababc", 2)
	find(t, "abcabcabd", "abcabd", 3)
	find(t, "abacababacabacaba", "abacabacaba", 6)
	find(t, "aabaaabaaac", "aabaaac", 4)
	find(t, "mississippi", "issip", 4)
	find(t, "mississippi", "sissy", -1)
	find(t, "\x00\xff\x00", "\xff", 1)
	find(t, "\u00e9", "\xa9", 1)
	find(t, "\u00e9", "\xe9", -1)
}

func TestP9_5FindEachByte(t *testing.T) {
	row := strings.Join(eachByte(), "")
	for i, b := range eachByte() {
		find(t, row, b, int64(i))
		find(t, row, row[i:], int64(i))
		find(t, row[:i]+row[i+1:], b, -1)
		find(t, row[i:]+row[:i], row[i:], 0)
	}
}

func TestP9_5FindEachShortText(t *testing.T) {
	for _, s := range eachText("ab", 10) {
		for _, sub := range eachText("ab", 6) {
			find(t, s, sub, modelFind(s, sub))
		}
	}
	for _, s := range eachText("ab\xff", 6) {
		for _, sub := range eachText("ab\xff", 4) {
			find(t, s, sub, modelFind(s, sub))
		}
	}
}

func TestP9_5FindInGrownTexts(t *testing.T) {
	r := rand.New(rand.NewSource(951))
	for range 50000 {
		part := anyText(r, "ab", 7)
		sub := strings.Repeat(part, r.Intn(4)) + anyText(r, "ab", 5)
		s := anyText(r, "ab", 20) + strings.Repeat(part, r.Intn(6)) + anyText(r, "ab", 20) + sub[:r.Intn(len(sub)+1)]
		find(t, s, sub, modelFind(s, sub))
		find(t, s+sub, sub, modelFind(s+sub, sub))
	}
}

// However much of it lies upon itself, each byte is looked at but a few times.
func TestP9_5FindInLongTexts(t *testing.T) {
	half := strings.Repeat("a", 1<<20)
	find(t, half+half, half, 0)
	find(t, half+half, half+"b", -1)
	find(t, half+half, "b"+half, -1)
	find(t, half+half+"b", half+"b", 1<<20)
	find(t, half+half, half+"b"+half[1:], -1)
	find(t, half, half+"a", -1)
	find(t, half, half+half, -1)
	find(t, half+"b", "b", 1<<20)
	find(t, half, "", 0)
	find(t, "", half, -1)
	twice := strings.Repeat("ab", 1<<20)
	find(t, twice, strings.Repeat("ab", 1<<19)+"b", -1)
	find(t, twice+"b", strings.Repeat("ab", 1<<19)+"b", 1<<20)
}
