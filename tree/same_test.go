package tree_test

import (
	"math"
	"testing"

	"krait/api"
	"krait/tree"
)

// slowSame is Same, as the chapter's words say it.
func slowSame(a, b api.Tree) bool {
	if len(a) == 0 || len(b) == 0 {
		return len(a) == len(b)
	}
	return slowSameNodes(a, b, len(a)-1, len(b)-1)
}

func slowSameNodes(a, b api.Tree, x, y int) bool {
	k, l := kidsOf(a, x), kidsOf(b, y)
	if a[x].Op != b[y].Op || a[x].S != b[y].S || a[x].N != b[y].N || len(k) != len(l) {
		return false
	}
	for i := range k {
		if !slowSameNodes(a, b, k[i], l[i]) {
			return false
		}
	}
	return true
}

func wantSame(t *testing.T, a, b api.Tree, want bool) {
	t.Helper()
	if tree.Same(a, b) != want || tree.Same(b, a) != want {
		t.Errorf("%v and %v: %v, %v; want %v", a, b, tree.Same(a, b), tree.Same(b, a), want)
	}
}

func TestP3_3TreesWithoutNodes(t *testing.T) {
	wantSame(t, nil, nil, true)
	wantSame(t, nil, api.Tree{}, true)
	wantSame(t, api.Tree{}, api.Tree{}, true)
	wantSame(t, nil, api.Tree{{}}, false)
	wantSame(t, api.Tree{}, example(), false)
}

func TestP3_3OneNode(t *testing.T) {
	l := []api.Tree{{{}}, {{Op: 1}}, {{Op: -1}}, {{S: "a"}}, {{S: "b"}}, {{S: "a "}}, {{S: "\x00"}}, {{N: 1}}, {{N: -1}}, {{N: math.MinInt64}}, {{Op: 1, N: 1}}, {{Op: 1, S: "1"}}, {{S: "1", N: 1}}}
	for i, a := range l {
		for j, b := range l {
			wantSame(t, a, copied(b), i == j)
		}
	}
}

func TestP3_3PlacesPlayNoPart(t *testing.T) {
	a, b := example(), example()
	for i := range b {
		b[i].At = math.MinInt + i
	}
	wantSame(t, a, b, true)
}

func TestP3_3EachNodeOfATree(t *testing.T) {
	for i := range example() {
		for _, change := range []func(n *api.Node){
			func(n *api.Node) { n.Op = api.OFalse },
			func(n *api.Node) { n.S += "a" },
			func(n *api.Node) { n.N++ },
			func(n *api.Node) { n.N-- },
			func(n *api.Node) { n.Kids = append(n.Kids, 0) },
			func(n *api.Node) { n.Kids = append([]int{0}, n.Kids...) },
		} {
			b := example()
			change(&b[i])
			wantSame(t, example(), b, i == 0 && len(b[0].Kids) > 0)
		}
		for j := range example()[i].Kids {
			b := example()
			b[i].Kids = append(b[i].Kids[:j:j], b[i].Kids[j+1:]...)
			wantSame(t, example(), b, false)
		}
	}
	b := example()
	b[2].Kids = []int{1, 0}
	wantSame(t, example(), b, false)
	b[0], b[1] = b[1], b[0]
	wantSame(t, example(), b, true)
}

func TestP3_3WhatIsNoKidPlaysNoPart(t *testing.T) {
	a, b := example(), example()
	for i := range b {
		b[i].Kids = append([]int{-1, i}, b[i].Kids...)
		b[i].Kids = append(b[i].Kids, i+1, math.MaxInt, math.MinInt)
	}
	wantSame(t, a, b, true)
	// Nor does a node that the root does not reach.
	more := append(api.Tree{{Op: 77, S: "left"}}, copied(a)...)
	for i := 1; i < len(more); i++ {
		for j := range more[i].Kids {
			more[i].Kids[j]++
		}
	}
	wantSame(t, a, more, true)
	more[4].Kids = append(more[4].Kids, 0)
	wantSame(t, a, more, false)
}

func TestP3_3OneThatStandsTwice(t *testing.T) {
	once := api.Tree{{Op: 5}, {Op: 6, Kids: []int{0, 0}}}
	twice := api.Tree{{Op: 5}, {Op: 5}, {Op: 6, Kids: []int{1, 0}}}
	other := api.Tree{{Op: 5}, {Op: 5, N: 1}, {Op: 6, Kids: []int{1, 0}}}
	wantSame(t, once, twice, true)
	wantSame(t, once, other, false)
	wantSame(t, twice, other, false)
}

func TestP3_3RowsAreHeldApart(t *testing.T) {
	// Many leaves, all unlike: 1, 2, 12, 11 are the numbers of some.
	leaves := func(rows ...[]int) api.Tree {
		var l api.Tree
		for i := range 200 {
			l = append(l, api.Node{Op: 1, N: int64(i)})
		}
		last := api.Node{Op: 2}
		for _, row := range rows {
			l = append(l, api.Node{Op: 2, Kids: row})
			last.Kids = append(last.Kids, len(l)-1)
		}
		return append(l, last)
	}
	all := []api.Tree{leaves(), leaves([]int{1, 2}), leaves([]int{12}), leaves([]int{1}, []int{2}), leaves([]int{2, 1}), leaves([]int{1, 11}), leaves([]int{11, 1}), leaves([]int{111}), leaves([]int{1, 1, 1}), leaves([]int{1, 2}, nil), leaves(nil, []int{1, 2}), leaves([]int{1, 1, 2}), leaves([]int{112}), leaves([]int{11, 2}), leaves([]int{1, 12})}
	for i, a := range all {
		for j, b := range all {
			if tree.Same(a, b) != (i == j) {
				t.Errorf("%d and %d: %v", i, j, tree.Same(a, b))
			}
		}
	}
}

func TestP3_3EachTwoSmallTrees(t *testing.T) {
	var all []api.Tree
	each(3, []int{0, 1}, func(l api.Tree) {
		for _, ops := range [][3]int{{1, 1, 1}, {1, 1, 2}, {1, 2, 1}} {
			other := copied(l)
			for i := range other {
				other[i].Op = ops[i]
			}
			all = append(all, other)
		}
	})
	for i := 0; i < len(all); i += 3 {
		for j := i; j < len(all); j += 2 {
			was, wasToo := copied(all[i]), copied(all[j])
			wantSame(t, all[i], all[j], slowSame(all[i], all[j]))
			if !equal(all[i], was) || !equal(all[j], wasToo) {
				t.Fatalf("%v and %v were %v and %v", all[i], all[j], was, wasToo)
			}
		}
	}
}

func TestP1SameOfLongTrees(t *testing.T) {
	const many = 1 << 16
	for _, l := range []api.Tree{chain(many), doubled(many)} {
		other := copied(l)
		if !tree.Same(l, other) {
			t.Error("they must be the same")
		}
		other[0].N = 1
		if tree.Same(l, other) || tree.Same(l, l[:many-1]) {
			t.Error("they can't be the same")
		}
	}
}
