package text_test

import (
	"math"
	"math/big"
	"math/rand"
	"slices"
	"strings"
	"testing"
)

const (
	least    = math.MinInt64
	greatest = math.MaxInt64
)

const (
	index  = "IndexError"
	memory = "MemoryError"
	wrong  = "ValueError"
)

// told holds what was told (a str, and the class of what was raised) to what is to be told: nothing beside a class.
func told(t *testing.T, what, s, class, want, wantClass string) {
	t.Helper()
	if s != want || class != wantClass {
		t.Errorf("%s: %.60q (%d bytes), %q, want %.60q (%d bytes), %q", what, s, len(s), class, want, len(want), wantClass)
	}
}

// eachText is all strs of at most some bytes of those that are named, the shorter ones first.
func eachText(bytes string, most int) []string {
	all := []string{""}
	from := 0
	for range most {
		to := len(all)
		for _, s := range all[from:to] {
			for i := range len(bytes) {
				all = append(all, s+bytes[i:i+1])
			}
		}
		from = to
	}
	return all
}

// eachByte is all strs of one byte.
func eachByte() []string {
	var all []string
	for i := range 256 {
		all = append(all, string([]byte{byte(i)}))
	}
	return all
}

// anyText is one of less than most bytes, of those that are named.
func anyText(r *rand.Rand, bytes string, most int) string {
	l := make([]byte, r.Intn(most))
	for i := range l {
		l[i] = bytes[r.Intn(len(bytes))]
	}
	return string(l)
}

// anyInt is one of any size, below 0 too.
func anyInt(r *rand.Rand) int64 {
	return int64(r.Uint64()) >> r.Intn(64)
}

// near is the ints around 0, around each that is named and what is as far below 0, and at the ends.
func near(l ...int64) []int64 {
	all := []int64{least, least + 1, least + 2, least / 2, greatest / 2, greatest - 2, greatest - 1, greatest}
	for _, n := range append(l, 0) {
		for i := int64(-2); i <= 2; i++ {
			all = append(all, n+i, -n+i)
		}
	}
	slices.Sort(all)
	return slices.Compact(all)
}

// placeOf is a place, counted from n if it is below 0, by whole numbers without bounds.
func placeOf(n, place int64) *big.Int {
	at := big.NewInt(place)
	if place < 0 {
		at.Add(at, big.NewInt(n))
	}
	return at
}

// modelAt is At, told by all bytes that there are.
func modelAt(s string, i int64) (string, string) {
	at := placeOf(int64(len(s)), i)
	for k := range len(s) {
		if at.Cmp(big.NewInt(int64(k))) == 0 {
			return string([]byte{s[k]}), ""
		}
	}
	return "", index
}

// modelBounds is Bounds by whole numbers without bounds.
func modelBounds(n, from, to int64) (int64, int64) {
	if n < 0 {
		n = 0
	}
	within := func(place int64) int64 {
		at := placeOf(n, place)
		if at.Sign() < 0 {
			return 0
		}
		if at.Cmp(big.NewInt(n)) > 0 {
			return n
		}
		return at.Int64()
	}
	low, high := within(from), within(to)
	if low > high {
		return low, low
	}
	return low, high
}

// modelSlice is Slice, byte by byte.
func modelSlice(s string, from, to int64) string {
	low, high := modelBounds(int64(len(s)), from, to)
	var l []byte
	for i := low; i < high; i++ {
		l = append(l, s[i])
	}
	return string(l)
}

// standsAt tells whether s has all bytes of sub from a place on.
func standsAt(s, sub string, place int) bool {
	if place+len(sub) > len(s) {
		return false
	}
	for i := range len(sub) {
		if s[place+i] != sub[i] {
			return false
		}
	}
	return true
}

func modelFind(s, sub string) int64 {
	for i := range len(s) + 1 {
		if standsAt(s, sub, i) {
			return int64(i)
		}
	}
	return -1
}

func modelSplit(s, sep string) ([]string, string) {
	if sep == "" {
		return nil, wrong
	}
	var l []string
	from := 0
	for at := 0; at < len(s); {
		if !standsAt(s, sep, at) {
			at++
			continue
		}
		l = append(l, s[from:at])
		at += len(sep)
		from = at
	}
	l = append(l, s[from:])
	if len(l) > 4096 {
		return nil, memory
	}
	return l, ""
}

func modelJoin(sep string, l []string) (string, string) {
	var all strings.Builder
	for i, s := range l {
		if i != 0 {
			all.WriteString(sep)
		}
		all.WriteString(s)
	}
	if all.Len() > 65536 {
		return "", memory
	}
	return all.String(), ""
}

func modelCompare(a, b string) int {
	for i := 0; i < len(a) || i < len(b); i++ {
		switch {
		case i == len(a):
			return -1
		case i == len(b):
			return 1
		case a[i] < b[i]:
			return -1
		case a[i] > b[i]:
			return 1
		}
	}
	return 0
}
