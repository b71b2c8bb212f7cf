package dict_test

import (
	"math/rand"
	"slices"
	"testing"

	"krait/api"
	"krait/dict"
)

func TestP10_3AllInOrder(t *testing.T) {
	d := dict.New()
	for range d.All() {
		t.Error("New tells a pair")
	}
	l := []pair{{text("b"), number(1)}, {number(2), object(7)}, {text("a"), none}, {none, builtin("len")}}
	d = of(t, l...)
	if got := pairsOf(d); !slices.Equal(got, l) {
		t.Errorf("All %v, want %v", got, l)
	}
	d.Del(number(2))
	d.Put(text("b"), right)
	d.Put(number(2), wrong)
	if got, want := pairsOf(d), []pair{{text("b"), right}, l[2], l[3], {number(2), wrong}}; !slices.Equal(got, want) {
		t.Errorf("All %v, want %v", got, want)
	}
}

func TestP10_3AllLeftOff(t *testing.T) {
	for gone := range 5 {
		d, m := of(t, numbered(8)...), model(numbered(8))
		for i := range gone {
			d.Del(number(int64(2 * i)))
			m.del(number(int64(2 * i)))
		}
		all := d.All()
		for most := range len(m) + 1 {
			var got []pair
			if most > 0 {
				for k, x := range all {
					got = append(got, pair{k, x})
					if len(got) == most {
						break
					}
				}
			}
			if !slices.Equal(got, m[:most]) {
				t.Errorf("%d of %d pairs: %v, want %v", most, len(m), got, m[:most])
			}
		}
		same(t, "left off", d, m)
	}
}

func TestP10_3AllAsItIsWhenItBegins(t *testing.T) {
	d := of(t, numbered(2)...)
	all := d.All()
	tell := func() []pair {
		var l []pair
		for k, x := range all {
			l = append(l, pair{k, x})
		}
		return l
	}
	if got := tell(); !slices.Equal(got, numbered(2)) {
		t.Errorf("first: %v", got)
	}
	if got := tell(); !slices.Equal(got, numbered(2)) {
		t.Errorf("again: %v", got)
	}
	d.Put(none, right)
	d.Put(number(1), wrong)
	d.Del(number(0))
	if got, want := tell(), []pair{{number(1), wrong}, {none, right}}; !slices.Equal(got, want) {
		t.Errorf("behind changes: %v, want %v", got, want)
	}
	d.Del(number(1))
	d.Del(none)
	if got := tell(); len(got) != 0 {
		t.Errorf("behind all is taken out: %v", got)
	}
	d.Put(text("a"), none)
	if got, want := tell(), []pair{{text("a"), none}}; !slices.Equal(got, want) {
		t.Errorf("at last: %v, want %v", got, want)
	}
}

// whileAll goes over a Dict of some pairs, changes it at one of them, and holds what was told to what was there when it began.
func whileAll(t *testing.T, n, at int, change func(put func(k, x api.Value), del func(k api.Value))) {
	t.Helper()
	d, m := of(t, numbered(n)...), model(numbered(n))
	put := func(k, x api.Value) {
		if d.Put(k, x) != m.put(k, x) {
			t.Errorf("Put %v while it goes", k)
		}
	}
	del := func(k api.Value) {
		if d.Del(k) != m.del(k) {
			t.Errorf("Del %v while it goes", k)
		}
	}
	var got []pair
	for k, x := range d.All() {
		if len(got) == at {
			change(put, del)
			same(t, "while it goes", d, m)
		}
		got = append(got, pair{k, x})
	}
	if !slices.Equal(got, numbered(n)) {
		t.Errorf("changed at %d of %d: %v", at, n, got)
	}
	same(t, "behind it", d, m)
}

func TestP10_3AllWhileItIsChanged(t *testing.T) {
	for _, n := range []int{1, 2, 3, 8, 9} {
		for at := range n {
			whileAll(t, n, at, func(put func(k, x api.Value), del func(k api.Value)) {
				for i := range int64(n) {
					put(number(i), right)
				}
			})
			whileAll(t, n, at, func(put func(k, x api.Value), del func(k api.Value)) {
				for i := range int64(100) {
					put(number(-1-i), right)
				}
			})
			whileAll(t, n, at, func(put func(k, x api.Value), del func(k api.Value)) {
				for i := range int64(n) {
					del(number(i))
				}
				put(text("a"), none)
			})
			for i := range int64(n) {
				whileAll(t, n, at, func(put func(k, x api.Value), del func(k api.Value)) { del(number(i)) })
				whileAll(t, n, at, func(put func(k, x api.Value), del func(k api.Value)) {
					del(number(i))
					put(number(i), none)
				})
			}
		}
	}
}

func TestP10_3AllTakesOutWhatItTells(t *testing.T) {
	d := of(t, numbered(100)...)
	next := int64(0)
	for k := range d.All() {
		if k != number(next) || !d.Del(k) || !d.Put(text(string(rune(next))), k) {
			t.Fatalf("%v, want %d", k, next)
		}
		next++
	}
	if next != 100 || d.Len() != 100 {
		t.Errorf("%d were told, %d are there", next, d.Len())
	}
}

func TestP10_3AllWithinAll(t *testing.T) {
	d := of(t, numbered(4)...)
	all := d.All()
	told := 0
	for k := range all {
		// The inner one begins anew each time, so that it sees what the outer one's steps have done.
		var inner []api.Value
		for k := range all {
			inner = append(inner, k)
		}
		if k != number(int64(told)) || !slices.Equal(inner, d.Keys()) || len(inner) != 4-told {
			t.Fatalf("%v, and within it %v", k, inner)
		}
		d.Del(k)
		told++
	}
	if told != 4 {
		t.Errorf("%d were told", told)
	}
}

func TestP10_3AllModel(t *testing.T) {
	for seed := range int64(300) {
		r := rand.New(rand.NewSource(seed))
		d, m := dict.New(), model{}
		for range r.Intn(60) {
			step(t, r, d, &m, anyValue(r))
		}
		want, place := m.clone(), 0
		for k, x := range d.All() {
			if place == len(want) || (pair{k, x}) != want[place] {
				t.Fatalf("at %d: %v, %v of %v", place, k, x, want)
			}
			place++
			for range r.Intn(6) {
				step(t, r, d, &m, anyValue(r))
			}
		}
		if place != len(want) {
			t.Fatalf("%d of %d were told", place, len(want))
		}
		same(t, "gone over", d, m)
	}
}

func TestP10_3Clone(t *testing.T) {
	same(t, "clone of New", dict.New().Clone(), nil)
	l := numbered(5)
	d := of(t, l...)
	c := d.Clone()
	same(t, "clone", c, l)
	if c == d {
		t.Error("the clone is the same Dict")
	}
	d.Put(number(0), none)
	d.Del(number(2))
	d.Put(text("d"), right)
	same(t, "clone, behind changes of the other", c, l)
	e := d.Clone()
	c.Del(number(0))
	c.Del(number(4))
	c.Put(number(1), wrong)
	c.Put(text("c"), right)
	want := []pair{{number(0), none}, l[1], l[3], l[4], {text("d"), right}}
	same(t, "the other, behind changes of the clone", d, want)
	same(t, "a clone of the other", e, want)
	same(t, "clone", c, []pair{{number(1), wrong}, l[2], l[3], {text("c"), right}})
}

func TestP10_3CloneOfFull(t *testing.T) {
	l := numbered(api.MaxItems)
	d := of(t, l...)
	c := d.Clone()
	same(t, "clone of a full one", c, l)
	if c.Put(none, none) || !c.Put(number(0), none) || !c.Del(number(1)) || !c.Put(none, none) || c.Put(number(1), none) {
		t.Error("a clone has as many pairs at most")
	}
	same(t, "a full one", d, l)
}

func TestP10_3CloneModel(t *testing.T) {
	for seed := range int64(100) {
		r := rand.New(rand.NewSource(seed))
		dicts, models := []*dict.Dict{dict.New()}, []model{{}}
		for range 300 {
			i := r.Intn(len(dicts))
			step(t, r, dicts[i], &models[i], anyValue(r))
			if len(dicts) < 5 && r.Intn(30) == 0 {
				dicts, models = append(dicts, dicts[i].Clone()), append(models, models[i].clone())
			}
		}
		for i, d := range dicts {
			same(t, "one of some clones", d, models[i])
		}
	}
}
