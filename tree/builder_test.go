package tree_test

import (
	"math"
	"slices"
	"testing"

	"krait/api"
	"krait/tree"
)

func wantTree(t *testing.T, b *tree.Builder, want api.Tree) {
	t.Helper()
	if got := b.Tree(); !equal(got, want) {
		t.Errorf("built is %v, want %v", got, want)
	}
}

func TestP3_4Example(t *testing.T) {
	var b tree.Builder
	for i, n := range example() {
		if got := b.Add(n.Op, n.At, n.S, n.N, n.Kids...); got != i {
			t.Errorf("the number is %d, want %d", got, i)
		}
	}
	wantTree(t, &b, example())
}

func TestP3_4NoNode(t *testing.T) {
	var b tree.Builder
	if b.Tree() != nil || new(tree.Builder).Tree() != nil {
		t.Error("nil, if none was added")
	}
}

func TestP3_4NilBuilder(t *testing.T) {
	var b *tree.Builder
	for range 2 {
		if got := b.Add(api.OName, 1, "a", 2, 0, 1); got != -1 {
			t.Errorf("the number is %d", got)
		}
		if b.Tree() != nil {
			t.Error("nil, of a nil one")
		}
	}
}

func TestP3_4AnyNode(t *testing.T) {
	var b tree.Builder
	for i, n := range []api.Node{{Op: math.MinInt, At: math.MinInt, S: "\x00if", N: math.MinInt64}, {}, {Op: math.MaxInt, At: math.MaxInt, N: math.MaxInt64}} {
		if got := b.Add(n.Op, n.At, n.S, n.N); got != i {
			t.Errorf("the number is %d, want %d", got, i)
		}
		wantTree(t, &b, api.Tree{n})
	}
}

func TestP3_4KidsThatWereNotAdded(t *testing.T) {
	var b tree.Builder
	b.Add(1, 0, "", 0, 0, 1, -1)
	wantTree(t, &b, api.Tree{{Op: 1}})
	b.Add(2, 0, "", 0, 1, 0, 2, math.MinInt, 0, math.MaxInt, -1)
	// Numbers that stood there too soon stay away when there are such nodes.
	wantTree(t, &b, api.Tree{{Op: 1}, {Op: 2, Kids: []int{0, 0}}})
	b.Add(3, 0, "", 0, 3, 0, 1, 3, 2)
	wantTree(t, &b, api.Tree{{Op: 1}, {Op: 2, Kids: []int{0, 0}}, {Op: 3, Kids: []int{0, 1}}})
}

func TestP3_4WhatTheLastOneDoesNotReach(t *testing.T) {
	var b tree.Builder
	for i := range 6 {
		b.Add(i, 10*i, "", int64(-i))
	}
	wantTree(t, &b, api.Tree{{Op: 5, At: 50, N: -5}})
	b.Add(6, 60, "six", 0, 4, 1, 4)
	six := api.Tree{{Op: 1, At: 10, N: -1}, {Op: 4, At: 40, N: -4}, {Op: 6, At: 60, S: "six", Kids: []int{1, 0, 1}}}
	wantTree(t, &b, six)
	wantTree(t, &b, six)
	b.Add(7, 70, "", 0)
	wantTree(t, &b, api.Tree{{Op: 7, At: 70}})
	b.Add(8, 80, "", 0, 6, 0, 7)
	wantTree(t, &b, api.Tree{{Op: 0}, six[0], six[1], {Op: 6, At: 60, S: "six", Kids: []int{2, 1, 2}}, {Op: 7, At: 70}, {Op: 8, At: 80, Kids: []int{3, 0, 4}}})
}

func TestP3_4EachSmallTree(t *testing.T) {
	each(4, []int{-1, 0, 2, 3}, func(l api.Tree) {
		var b tree.Builder
		for _, n := range l {
			b.Add(n.Op, n.At, n.S, n.N, n.Kids...)
		}
		got := b.Tree()
		reached := slices.Sorted(slices.Values(slowAll(l, 3)))
		if len(got) != len(reached) || !tree.Same(got, l) {
			t.Errorf("%v: built is %v", l, got)
			return
		}
		for i, old := range reached {
			if got[i].Op != old || got[i].At != 7*old {
				t.Errorf("%v: built is %v", l, got)
			}
			for j, kid := range kidsOf(l, old) {
				if reached[got[i].Kids[j]] != kid {
					t.Errorf("%v: built is %v", l, got)
				}
			}
		}
	})
}

func TestR3WhatIsAddedIsTheBuildersOwn(t *testing.T) {
	var b tree.Builder
	b.Add(1, 0, "", 0)
	b.Add(2, 0, "", 0)
	row := make([]int, 2, 8)
	row[1] = 1
	b.Add(3, 0, "", 0, row...)
	if !slices.Equal(row[:8], []int{0, 1, 0, 0, 0, 0, 0, 0}) {
		t.Errorf("the row is %v", row[:8])
	}
	row[0], row[1] = 1, 1
	wantTree(t, &b, api.Tree{{Op: 1}, {Op: 2}, {Op: 3, Kids: []int{0, 1}}})
}

func TestR3WhatIsToldIsTheCallers(t *testing.T) {
	var b tree.Builder
	for _, n := range example() {
		b.Add(n.Op, n.At, n.S, n.N, n.Kids...)
	}
	first := b.Tree()
	for i := range first {
		for j := range first[i].Kids {
			first[i].Kids[j] = -9
		}
		grown := append(first[i].Kids, -9)
		first[i] = api.Node{Op: len(grown)}
	}
	wantTree(t, &b, example())
	second := b.Tree()
	b.Add(api.SPass, 9, "", 0)
	b.Add(api.SModule, 9, "", 0, 3, 5)
	if !equal(second, example()) {
		t.Errorf("what was told is now %v", second)
	}
	for i := range second {
		// A row that is made longer reaches into no other one.
		_ = append(second[i].Kids, -9, -9)
	}
	if !equal(second, example()) {
		t.Errorf("what was told is now %v", second)
	}
}

func TestP3_4BuildersAreApart(t *testing.T) {
	var a, b tree.Builder
	a.Add(1, 0, "", 0)
	if b.Tree() != nil || b.Add(2, 0, "", 0, 0) != 0 {
		t.Error("a new one has no nodes")
	}
	wantTree(t, &a, api.Tree{{Op: 1}})
	wantTree(t, &b, api.Tree{{Op: 2}})
}

func TestP1LongTreesAreBuilt(t *testing.T) {
	const many = 1 << 16
	for _, l := range []api.Tree{chain(many), doubled(many)} {
		var b tree.Builder
		for _, n := range l {
			b.Add(n.Op, n.At, n.S, n.N, n.Kids...)
		}
		if got := b.Tree(); !tree.Same(got, l) || len(got) != many {
			t.Errorf("built are %d nodes", len(got))
		}
	}
}
