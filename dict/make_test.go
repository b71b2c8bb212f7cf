package dict_test

import (
	"math"
	"math/rand"
	"slices"
	"strconv"
	"testing"

	"krait/api"
	"krait/dict"
)

const (
	least    = math.MinInt64
	greatest = math.MaxInt64
)

var (
	none  = api.Value{Kind: api.VNone}
	right = api.Value{Kind: api.VBool, N: 1}
	wrong = api.Value{Kind: api.VBool}
)

func number(n int64) api.Value { return api.Value{Kind: api.VInt, N: n} }

func text(s string) api.Value { return api.Value{Kind: api.VStr, S: s} }

func object(n int64) api.Value { return api.Value{Kind: api.VRef, N: n} }

func builtin(s string) api.Value { return api.Value{Kind: api.VFun, S: s} }

// pair is a key, and its value.
type pair struct{ key, value api.Value }

// model is a Dict as the chapter has it: a row of pairs, each key sought from the beginning.
type model []pair

// mayBeKey is Key, by the chapter's list.
func mayBeKey(v api.Value) bool {
	return v == none || v == right || v == wrong || v == number(v.N) || v == text(v.S)
}

func (m model) place(k api.Value) int {
	for i, p := range m {
		if p.key.Kind == k.Kind && p.key.N == k.N && p.key.S == k.S {
			return i
		}
	}
	return -1
}

func (m *model) put(k, x api.Value) bool {
	if !mayBeKey(k) {
		return false
	}
	if i := m.place(k); i >= 0 {
		(*m)[i].value = x
		return true
	}
	if len(*m) == 4096 {
		return false
	}
	*m = append(*m, pair{k, x})
	return true
}

func (m model) get(k api.Value) (api.Value, bool) {
	if i := m.place(k); i >= 0 {
		return m[i].value, true
	}
	return api.Value{}, false
}

func (m *model) del(k api.Value) bool {
	i := m.place(k)
	if i < 0 {
		return false
	}
	*m = slices.Delete(slices.Clone(*m), i, i+1)
	return true
}

func (m model) clone() model { return slices.Clone(m) }

// pairsOf is what All tells.
func pairsOf(d *dict.Dict) []pair {
	var l []pair
	for k, x := range d.All() {
		l = append(l, pair{k, x})
	}
	return l
}

// same holds all that a Dict tells of its pairs to a row of them.
func same(t *testing.T, what string, d *dict.Dict, want []pair) {
	t.Helper()
	if d.Len() != len(want) {
		t.Fatalf("%s: Len %d, want %d", what, d.Len(), len(want))
	}
	if l := pairsOf(d); !slices.Equal(l, want) {
		t.Fatalf("%s: All %v, want %v", what, l, want)
	}
	keys := d.Keys()
	if len(keys) != len(want) {
		t.Fatalf("%s: %d Keys, want %d", what, len(keys), len(want))
	}
	for i, p := range want {
		if keys[i] != p.key {
			t.Fatalf("%s: Keys %v, want %v at %d", what, keys, p.key, i)
		}
		if x, ok := d.Get(p.key); x != p.value || !ok {
			t.Fatalf("%s: Get %v: %v, %v, want %v, true", what, p.key, x, ok, p.value)
		}
	}
}

// of is a Dict of pairs.
func of(t *testing.T, l ...pair) *dict.Dict {
	t.Helper()
	d := dict.New()
	for _, p := range l {
		if !d.Put(p.key, p.value) {
			t.Fatalf("Put %v: false", p.key)
		}
	}
	return d
}

// numbered is as many pairs of ints.
func numbered(n int) []pair {
	var l []pair
	for i := range n {
		l = append(l, pair{number(int64(i)), text(strconv.Itoa(i))})
	}
	return l
}

// alike is keys that are as near to each other as may be, each once.
func alike() []api.Value {
	return []api.Value{
		none, wrong, right,
		number(0), number(1), number(-1), number(least), number(greatest),
		text(""), text("0"), text("1"), text("-1"), text("None"), text("True"), text("False"), text("a"), text("A"), text("a\x00"), text("\x00"),
	}
}

// noKeys is values that may not be keys.
func noKeys() []api.Value {
	return []api.Value{
		object(0), object(1), object(-1), builtin(""), builtin("print"), builtin("None"),
		{Kind: api.VNone, N: 1}, {Kind: api.VNone, N: -1}, {Kind: api.VNone, S: "a"}, {Kind: api.VNone, N: least, S: "None"},
		{Kind: api.VBool, N: 2}, {Kind: api.VBool, N: -1}, {Kind: api.VBool, N: greatest}, {Kind: api.VBool, S: "a"}, {Kind: api.VBool, N: 1, S: "\x00"},
		{Kind: api.VInt, S: "0"}, {Kind: api.VInt, N: 7, S: "7"},
		{Kind: api.VStr, N: 1}, {Kind: api.VStr, N: -1, S: "a"}, {Kind: api.VStr, N: least, S: ""},
		{Kind: 6}, {Kind: 7, N: 1}, {Kind: -1}, {Kind: -1, S: "a"}, {Kind: math.MaxInt}, {Kind: math.MinInt},
	}
}

// anyValue is one of few: keys, and values that may not be.
func anyValue(r *rand.Rand) api.Value {
	l := alike()
	if r.Intn(8) == 0 {
		l = noKeys()
	}
	return l[r.Intn(len(l))]
}

// step does one thing to a Dict and to its model, and holds what both answer.
func step(t *testing.T, r *rand.Rand, d *dict.Dict, m *model, k api.Value) {
	t.Helper()
	x := anyValue(r)
	switch r.Intn(8) {
	case 0, 1, 2:
		if got, want := d.Put(k, x), m.put(k, x); got != want {
			t.Fatalf("Put %v: %v, want %v of %d pairs", k, got, want, len(*m))
		}
	case 3, 4, 5:
		if got, want := d.Del(k), m.del(k); got != want {
			t.Fatalf("Del %v: %v, want %v of %d pairs", k, got, want, len(*m))
		}
	default:
		got, ok := d.Get(k)
		want, is := m.get(k)
		if got != want || ok != is {
			t.Fatalf("Get %v: %v, %v, want %v, %v", k, got, ok, want, is)
		}
	}
}
