package linear_test

import (
	"math"
	"math/rand"
	"slices"
	"testing"

	"krait/linear"
)

func TestP11_3AllOfNoClass(t *testing.T) {
	if l, ok := linear.All(nil); len(l) != 0 || !ok {
		t.Errorf("of nil: %v, %v", l, ok)
	}
	sameAll(t, [][]int{}, nil, true)
}

func TestP11_3AllOrders(t *testing.T) {
	for _, x := range []struct{ bases, want [][]int }{
		{[][]int{nil}, [][]int{{0}}},
		{[][]int{{}, nil, {}}, [][]int{{0}, {1}, {2}}},
		{[][]int{{}, {0}, {1}, {2}}, [][]int{{0}, {1, 0}, {2, 1, 0}, {3, 2, 1, 0}}},
		{[][]int{{}, {0}, {0}, {1, 2}}, [][]int{{0}, {1, 0}, {2, 0}, {3, 1, 2, 0}}},
		{[][]int{{}, {0}, {0}, {2, 1}}, [][]int{{0}, {1, 0}, {2, 0}, {3, 2, 1, 0}}},
		{[][]int{{}, {}, {1, 0}, {0}, {2, 3}}, [][]int{{0}, {1}, {2, 1, 0}, {3, 0}, {4, 2, 1, 3, 0}}},
		// The well known one of seven classes: 1 to 3 of 0, 4 of 1 2, 5 of 3 1, 6 of both.
		{[][]int{{}, {0}, {0}, {0}, {1, 2}, {3, 1}, {5, 4}}, [][]int{{0}, {1, 0}, {2, 0}, {3, 0}, {4, 1, 2, 0}, {5, 3, 1, 0}, {6, 5, 3, 4, 1, 2, 0}}},
	} {
		sameAll(t, x.bases, x.want, true)
	}
}

func TestP11_3AllWithoutOrder(t *testing.T) {
	for _, bases := range [][][]int{
		{{}, {0}, {0, 1}},
		{{}, {}, {0, 1}, {1, 0}, {2, 3}},
		{{}, {}, {0, 1}, {1, 0}, {2, 3}, {}},
		// Bases that stand twice.
		{{}, {0, 0}},
		{{}, {0}, {1, 0, 1}},
		{{}, {}, {0, 1, 1}, {}},
	} {
		sameAll(t, bases, nil, false)
	}
}

func TestP11_3AllOfBasesThatMayNotBe(t *testing.T) {
	for _, base := range []int{2, 3, 4, 5, -1, -2, math.MinInt, math.MaxInt, math.MinInt32, math.MaxInt32} {
		sameAll(t, [][]int{{}, {}, {base}, {}}, nil, false)
		sameAll(t, [][]int{{}, {}, {0, base}, {}}, nil, false)
		sameAll(t, [][]int{{}, {}, {base, 1}, {0}}, nil, false)
	}
	sameAll(t, [][]int{{0}}, nil, false)
	sameAll(t, [][]int{{1}, {}}, nil, false)
	sameAll(t, [][]int{{-1}}, nil, false)
	sameAll(t, [][]int{{}, {1}}, nil, false)
	// What is wrong with a class is not made good by what stands behind it.
	sameAll(t, [][]int{{}, {2}, {0}, {0}, {0}}, nil, false)
}

func TestP11_3AllModelFewClasses(t *testing.T) {
	rows := rowsOf(2, -1, 0, 1, 2, 3)
	for _, a := range rows {
		for _, b := range rows {
			for _, c := range rows {
				l := [][]int{a, b, c}
				want, ok := all(l)
				sameAll(t, l, want, ok)
			}
		}
	}
}

// classes are some, each with bases among those ahead of it, often in an order that can be kept.
func classes(r *rand.Rand) [][]int {
	l := [][]int{}
	for class := range 1 + r.Intn(14) {
		var its []int
		for base := class - 1; base >= 0; base-- {
			if r.Intn(3) == 0 {
				its = append(its, base)
			}
		}
		if r.Intn(20) == 0 {
			r.Shuffle(len(its), func(i, k int) { its[i], its[k] = its[k], its[i] })
		}
		if r.Intn(200) == 0 {
			its = append(its, r.Intn(class+2)-1)
		}
		l = append(l, its)
	}
	return l
}

func TestP11_3AllModelAtRandom(t *testing.T) {
	yes := 0
	for seed := range int64(2000) {
		l := classes(rand.New(rand.NewSource(seed)))
		want, ok := all(l)
		sameAll(t, l, want, ok)
		if ok {
			yes++
		}
	}
	if yes < 500 || yes > 1900 {
		t.Errorf("%d of 2000 have an answer", yes)
	}
}

func TestP11_3AllKeepWhatTheyMust(t *testing.T) {
	for seed := range int64(1000) {
		bases := classes(rand.New(rand.NewSource(seed)))
		orders, ok := linear.All(bases)
		if !ok {
			continue
		}
		for class, l := range orders {
			if l[0] != class || !once(l) || !within(bases[class], l) {
				t.Fatalf("of %v: %d has %v", bases, class, l)
			}
			there := map[int]bool{class: true}
			for _, base := range bases[class] {
				if !within(orders[base], l) {
					t.Fatalf("of %v: %d has %v, %d has %v", bases, class, l, base, orders[base])
				}
				for _, n := range orders[base] {
					there[n] = true
				}
			}
			if len(there) != len(l) {
				t.Fatalf("of %v: %d has %v", bases, class, l)
			}
		}
	}
}

func TestP11_3AllOfManyClasses(t *testing.T) {
	const n = 400
	var line [][]int
	for class := range n {
		line = append(line, []int{class - 1})
	}
	line[0] = nil
	got, ok := linear.All(line)
	if !ok || len(got) != n {
		t.Fatalf("%d orders, %v", len(got), ok)
	}
	for class, l := range got {
		slices.Reverse(l)
		if len(l) != class+1 || !slices.IsSorted(l) || l[class] != class {
			t.Fatalf("%d has %v", class, l)
		}
	}
	const many = 30000
	wide := make([][]int, many+2)
	for class := 1; class <= many; class++ {
		wide[class] = []int{0}
		wide[many+1] = append(wide[many+1], class)
	}
	got, ok = linear.All(wide)
	if !ok || len(got[many+1]) != many+2 || got[many+1][0] != many+1 || got[many+1][1] != 1 || got[many+1][many+1] != 0 {
		t.Fatalf("%d orders, %v", len(got), ok)
	}
	wide[many+1][0], wide[many+1][many-1] = 0, 1
	if got, ok = linear.All(wide); got != nil || ok {
		t.Errorf("%d orders, %v, of a base ahead of another one that has it as its base", len(got), ok)
	}
}
