package dict_test

import (
	"math/rand"
	"runtime"
	"slices"
	"strings"
	"testing"

	"krait/api"
	"krait/dict"
)

func TestP10_1KeyOfEachKind(t *testing.T) {
	for _, v := range alike() {
		if !dict.Key(v) {
			t.Errorf("Key %v: false", v)
		}
	}
	if !dict.Key(text(strings.Repeat("a", api.MaxText+1))) {
		t.Error("Key of a long str: false")
	}
	for _, v := range noKeys() {
		if dict.Key(v) {
			t.Errorf("Key %v: true", v)
		}
	}
}

func TestP10_1KeyOfAllFields(t *testing.T) {
	for kind := -3; kind < 12; kind++ {
		for _, n := range []int64{least, least + 1, -2, -1, 0, 1, 2, 3, 4, 5, 1 << 32, greatest} {
			for _, s := range []string{"", "a", "0", "\x00", "None"} {
				v := api.Value{Kind: kind, N: n, S: s}
				if got, want := dict.Key(v), mayBeKey(v); got != want {
					t.Errorf("Key %v: %v, want %v", v, got, want)
				}
			}
		}
	}
}

func TestP10_1KeysAreTheSameByAllFields(t *testing.T) {
	for _, a := range alike() {
		for _, b := range alike() {
			d := of(t, pair{a, text("first")})
			if _, ok := d.Get(b); ok != (a == b) {
				t.Errorf("Get %v of %v: %v", b, a, ok)
			}
			d.Put(b, text("second"))
			if a == b {
				same(t, "one key", d, []pair{{a, text("second")}})
				continue
			}
			same(t, "two keys", d, []pair{{a, text("first")}, {b, text("second")}})
			if !d.Del(a) {
				t.Errorf("Del %v: false", a)
			}
			same(t, "one of two", d, []pair{{b, text("second")}})
		}
	}
}

func TestP10_1StrsAreTheSameByTheirBytes(t *testing.T) {
	long := strings.Repeat("ab", api.MaxText)
	d := of(t, pair{text(long), none})
	if x, ok := d.Get(text(strings.Repeat("abab", api.MaxText/2))); !ok || x != none {
		t.Error("a str of the same bytes is not there")
	}
	if _, ok := d.Get(text(long[1:])); ok {
		t.Error("a str of other bytes is there")
	}
}

func TestP10_2New(t *testing.T) {
	d := dict.New()
	same(t, "New", d, nil)
	for _, k := range append(alike(), noKeys()...) {
		if x, ok := d.Get(k); ok || x != (api.Value{}) {
			t.Errorf("Get %v: %v, %v", k, x, ok)
		}
		if d.Del(k) {
			t.Errorf("Del %v: true", k)
		}
	}
	d.Put(none, none)
	same(t, "another New", dict.New(), nil)
}

func TestP10_2PutBehindAllOthers(t *testing.T) {
	d := dict.New()
	var m model
	for i, k := range alike() {
		if !d.Put(k, number(int64(i))) {
			t.Fatalf("Put %v: false", k)
		}
		m = append(m, pair{k, number(int64(i))})
		same(t, "Put", d, m)
	}
}

func TestP10_2PutAgainStaysWhereItIs(t *testing.T) {
	for i, k := range alike() {
		d, m := dict.New(), model{}
		for _, k := range alike() {
			d.Put(k, number(1))
			m = append(m, pair{k, number(1)})
		}
		if !d.Put(k, text("again")) {
			t.Errorf("Put %v again: false", k)
		}
		m[i].value = text("again")
		same(t, "Put again", d, m)
	}
}

func TestP10_2PutOfNoKeyChangesNothing(t *testing.T) {
	l := numbered(3)
	d := of(t, l...)
	for _, k := range noKeys() {
		if d.Put(k, none) {
			t.Errorf("Put %v: true", k)
		}
		same(t, "Put of no key", d, l)
		if x, ok := d.Get(k); ok || x != (api.Value{}) {
			t.Errorf("Get %v: %v, %v", k, x, ok)
		}
		if d.Del(k) {
			t.Errorf("Del %v: true", k)
		}
		same(t, "Del of no key", d, l)
	}
}

func TestP10_2AnyValue(t *testing.T) {
	for _, x := range append(alike(), noKeys()...) {
		d := of(t, pair{number(1), x})
		same(t, "any value", d, []pair{{number(1), x}})
		if !d.Put(number(1), none) || !d.Put(number(1), x) {
			t.Errorf("Put of %v again: false", x)
		}
		same(t, "any value again", d, []pair{{number(1), x}})
	}
}

func TestP10_2MaxItems(t *testing.T) {
	l := numbered(api.MaxItems)
	d := dict.New()
	for i, p := range l {
		if d.Len() != i || !d.Put(p.key, p.value) {
			t.Fatalf("Put %d: false, or Len %d", i, d.Len())
		}
	}
	for _, k := range append(noKeys(), number(-1), number(api.MaxItems), none, text("0")) {
		if d.Put(k, none) {
			t.Fatalf("Put %v into a full one: true", k)
		}
	}
	same(t, "full", d, l)
	for _, i := range []int{0, 1, 2048, 4095} {
		if !d.Put(l[i].key, right) {
			t.Fatalf("Put of %d, that is there, into a full one: false", i)
		}
		l[i].value = right
	}
	same(t, "full, with values put again", d, l)
	if !d.Del(number(2048)) || !d.Put(none, wrong) || d.Put(number(2048), none) {
		t.Error("one out of a full one, and others in")
	}
	l = append(slices.Delete(l, 2048, 2049), pair{none, wrong})
	same(t, "full again", d, l)
}

func TestP10_2FullOnesLater(t *testing.T) {
	d := dict.New()
	// Many more are put than may be there at once, so that what is counted must be what is there.
	for i := range int64(3 * api.MaxItems) {
		if !d.Put(number(i), none) || !d.Put(number(-1-i), none) || !d.Del(number(i)) || !d.Del(number(-1-i)) {
			t.Fatalf("of %d pairs that are taken out again one is not", i)
		}
	}
	l := numbered(api.MaxItems)
	for _, p := range l {
		if !d.Put(p.key, p.value) {
			t.Fatalf("Put %v: false", p.key)
		}
	}
	same(t, "full at last", d, l)
	if d.Put(none, none) {
		t.Error("Put into a full one: true")
	}
}

func TestP10_2Del(t *testing.T) {
	l := numbered(9)
	for i := range l {
		d := of(t, l...)
		if !d.Del(l[i].key) {
			t.Fatalf("Del %d: false", i)
		}
		rest := slices.Delete(slices.Clone(l), i, i+1)
		same(t, "Del", d, rest)
		if x, ok := d.Get(l[i].key); ok || x != (api.Value{}) {
			t.Errorf("Get %d, that is taken out: %v, %v", i, x, ok)
		}
		if d.Del(l[i].key) {
			t.Errorf("Del %d again: true", i)
		}
		same(t, "Del again", d, rest)
		if !d.Put(l[i].key, none) {
			t.Fatalf("Put %d again: false", i)
		}
		same(t, "put again", d, append(rest, pair{l[i].key, none}))
	}
}

func TestP10_2DelOfAll(t *testing.T) {
	for _, n := range []int{1, 2, 3, 4, 5, 8, 16, 17, 64, 100} {
		l := numbered(n)
		for _, i := range []int{0, n / 2, n - 1} {
			d, m := of(t, l...), model(slices.Clone(l))
			for len(m) > 0 {
				k := m[min(i, len(m)-1)].key
				if !d.Del(k) || !m.del(k) {
					t.Fatalf("Del %v: false", k)
				}
				same(t, "Del", d, m)
			}
			d.Put(none, right)
			same(t, "Put behind Del of all", d, []pair{{none, right}})
		}
	}
}

func TestP10_2KeysAreTheCallers(t *testing.T) {
	l := numbered(3)
	d := of(t, l...)
	keys := d.Keys()
	keys[0], keys[2] = none, none
	_ = append(keys[:1], right)
	same(t, "keys were changed", d, l)
	keys = d.Keys()
	d.Put(none, none)
	d.Del(number(0))
	if !slices.Equal(keys, []api.Value{number(0), number(1), number(2)}) {
		t.Errorf("keys that were told have changed: %v", keys)
	}
}

func TestP10_2Long(t *testing.T) {
	l := numbered(api.MaxItems)
	d := of(t, l...)
	// The first one goes behind all others, again and again: closing each gap at once would take minutes.
	for i := range 1 << 20 {
		k := number(int64(i % api.MaxItems))
		if !d.Del(k) || !d.Put(k, text("")) || d.Len() != api.MaxItems {
			t.Fatalf("step %d", i)
		}
	}
	for i := range l {
		l[i].value = text("")
	}
	same(t, "gone round", d, l)
}

func TestP10_2NothingIsKeptOfWhatIsTakenOut(t *testing.T) {
	kept := func() uint64 {
		var m runtime.MemStats
		runtime.GC()
		runtime.ReadMemStats(&m)
		return m.HeapAlloc
	}
	d := of(t, numbered(10)...)
	before := kept()
	for i := range int64(1 << 19) {
		d.Put(number(10+i), none)
		d.Del(number(i))
	}
	if after := kept(); after > before+1<<20 {
		t.Errorf("%d bytes more are kept of 10 pairs", after-before)
	}
	if d.Len() != 10 {
		t.Errorf("%d pairs", d.Len())
	}
}

func TestP10_4Example(t *testing.T) {
	d := dict.New()
	d.Put(number(1), none)
	d.Put(right, none)
	d.Put(number(1), right)
	d.Del(right)
	d.Put(none, number(3))
	d.Put(right, number(4))
	same(t, "the example", d, []pair{{number(1), right}, {none, number(3)}, {right, number(4)}})
}

func TestP10_4Model(t *testing.T) {
	for seed := range int64(200) {
		r := rand.New(rand.NewSource(seed))
		d, m := dict.New(), model{}
		for range 200 {
			step(t, r, d, &m, anyValue(r))
			same(t, "grown", d, m)
		}
	}
}

func TestP10_4ModelOfMany(t *testing.T) {
	for seed := range int64(4) {
		r := rand.New(rand.NewSource(seed))
		d, m := dict.New(), model{}
		// Few enough steps, and enough keys beside those that are there, that it is full now and then.
		for _, p := range numbered(api.MaxItems - 20) {
			d.Put(p.key, p.value)
			m = append(m, p)
		}
		for i := range 3000 {
			k := number(r.Int63n(api.MaxItems + 40))
			if r.Intn(3) == 0 {
				if got, want := d.Put(k, none), m.put(k, none); got != want {
					t.Fatalf("Put %v: %v, want %v of %d pairs", k, got, want, len(m))
				}
			} else {
				step(t, r, d, &m, k)
			}
			if i%500 == 0 {
				same(t, "many", d, m)
			}
		}
		same(t, "many", d, m)
	}
}
