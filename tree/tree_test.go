package tree_test

import (
	"math"
	"slices"
	"testing"

	"krait/api"
	"krait/tree"
)

func TestP3_2Example(t *testing.T) {
	l := example()
	for _, x := range []struct {
		node  int
		all   []int
		depth int
	}{
		{4, []int{4, 3, 2, 0, 1}, 4}, {3, []int{3, 2, 0, 1}, 3}, {2, []int{2, 0, 1}, 2}, {1, []int{1}, 1}, {0, []int{0}, 1}, {5, nil, 0}, {-1, nil, 0},
	} {
		holdBelow(t, l, x.node, x.all, x.depth)
	}
}

func holdBelow(t *testing.T, l api.Tree, node int, all []int, depth int) {
	t.Helper()
	if got := slices.Collect(tree.All(l, node)); !slices.Equal(got, all) {
		t.Errorf("%v: All of %d are %v, want %v", l, node, got, all)
	}
	if got := tree.Size(l, node); got != len(all) {
		t.Errorf("%v: Size of %d is %d, want %d", l, node, got, len(all))
	}
	if got := tree.Depth(l, node); got != depth {
		t.Errorf("%v: Depth of %d is %d, want %d", l, node, got, depth)
	}
}

// kidsOf are what the chapter calls a node's kids.
func kidsOf(l api.Tree, node int) []int {
	return slices.DeleteFunc(slices.Clone(l[node].Kids), func(k int) bool { return k < 0 || k >= node })
}

// slowAll is All, as the chapter's words say it: all that is come to, each where it is come to first.
func slowAll(l api.Tree, node int) []int {
	if node < 0 || node >= len(l) {
		return nil
	}
	told := []int{node}
	for _, k := range kidsOf(l, node) {
		told = append(told, slowAll(l, k)...)
	}
	var once []int
	for _, n := range told {
		if !slices.Contains(once, n) {
			once = append(once, n)
		}
	}
	return once
}

func slowDepth(l api.Tree, node int) int {
	if node < 0 || node >= len(l) {
		return 0
	}
	depth := 0
	for _, k := range kidsOf(l, node) {
		depth = max(depth, slowDepth(l, k))
	}
	return depth + 1
}

func TestP3_2EachSmallTree(t *testing.T) {
	look := func(l api.Tree) {
		was := copied(l)
		for n := -1; n <= len(l); n++ {
			holdBelow(t, l, n, slowAll(l, n), slowDepth(l, n))
		}
		if !equal(l, was) {
			t.Errorf("%v was %v", l, was)
		}
	}
	look(nil)
	each(1, []int{-1, 0, 1}, look)
	each(2, []int{-1, 0, 1, 2}, look)
	each(3, []int{-1, 0, 1, 2, 3}, look)
	each(4, []int{0, 1, 2}, look)
}

func TestP3_2NoSuchNode(t *testing.T) {
	for _, l := range []api.Tree{nil, {}, {{}}, example()} {
		for _, n := range []int{math.MinInt, -2, -1, len(l), len(l) + 1, math.MaxInt} {
			holdBelow(t, l, n, nil, 0)
			if tree.All(l, n) == nil {
				t.Errorf("All of %v, %d is nil", l, n)
			}
		}
	}
}

func TestP3_2NumbersThatAreNoKids(t *testing.T) {
	l := api.Tree{{Kids: []int{0, -1, 1, 2}}, {Kids: []int{1, 2, 3}}, {Kids: []int{math.MinInt, 1, 2, math.MaxInt, 0, 3, 1, 0}}}
	holdBelow(t, l, 0, []int{0}, 1)
	holdBelow(t, l, 1, []int{1}, 1)
	holdBelow(t, l, 2, []int{2, 1, 0}, 2)
}

func TestP3_2OnceWhereItIsComeToFirst(t *testing.T) {
	l := api.Tree{{}, {}, {Kids: []int{1, 0}}, {Kids: []int{0, 2, 0}}, {Kids: []int{2, 3, 0, 3}}}
	holdBelow(t, l, 3, []int{3, 0, 2, 1}, 3)
	holdBelow(t, l, 4, []int{4, 2, 1, 0, 3}, 4)
}

func TestP3_2RightOrNotPlaysNoPart(t *testing.T) {
	l := api.Tree{{Op: -5, S: "if", N: -1}, {Op: api.SModule, Kids: []int{0}}, {Op: api.OName, Kids: []int{1, 1}}}
	holdBelow(t, l, 2, []int{2, 1, 0}, 3)
	l = append(l, api.Node{Op: api.ONone})
	holdBelow(t, l, 2, []int{2, 1, 0}, 3)
	holdBelow(t, l, 3, []int{3}, 1)
}

func TestR1AllIsLeftOffAndGoneOverAgain(t *testing.T) {
	l := doubled(6)
	seq := tree.All(l, 5)
	whole := slices.Collect(seq)
	for most := range len(whole) + 1 {
		var got []int
		for n := range seq {
			if len(got) == most {
				break
			}
			got = append(got, n)
		}
		if !slices.Equal(got, whole[:most]) {
			t.Errorf("the first %d are %v, want %v", most, got, whole[:most])
		}
		if again := slices.Collect(seq); !slices.Equal(again, whole) {
			t.Errorf("gone over again: %v, want %v", again, whole)
		}
	}
	var within [][]int
	for range seq {
		within = append(within, slices.Collect(seq))
	}
	for _, got := range within {
		if len(within) != len(whole) || !slices.Equal(got, whole) {
			t.Errorf("gone over within itself: %v, want %v", within, whole)
		}
	}
}

func TestR3AllKeepsNothingOfTheTree(t *testing.T) {
	l := example()
	seq := tree.All(l, 4)
	for i := range l {
		l[i].Kids = nil
	}
	for range 2 {
		if got := slices.Collect(seq); !slices.Equal(got, []int{4, 3, 2, 0, 1}) {
			t.Errorf("told is %v", got)
		}
	}
}

func TestP1LongTrees(t *testing.T) {
	const many = 1 << 16
	for _, l := range []api.Tree{chain(many), doubled(many)} {
		if tree.Size(l, many-1) != many || tree.Depth(l, many-1) != many {
			t.Error(tree.Size(l, many-1), tree.Depth(l, many-1))
		}
		last := many
		for n := range tree.All(l, many-1) {
			if n != last-1 {
				t.Fatalf("%d stands behind %d", n, last)
			}
			last = n
		}
		if last != 0 {
			t.Errorf("the last one is %d", last)
		}
	}
	wide := make(api.Tree, many)
	for i := range 4 * many {
		wide[many-1].Kids = append(wide[many-1].Kids, i*7%many)
	}
	if tree.Size(wide, many-1) != many || tree.Depth(wide, many-1) != 2 {
		t.Error(tree.Size(wide, many-1), tree.Depth(wide, many-1))
	}
}
