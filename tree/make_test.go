package tree_test

import (
	"slices"

	"krait/api"
)

// spec is a node with its kids themselves, as a test writes it down.
type spec struct {
	op   int
	s    string
	n    int64
	kids []spec
}

func node(op int, s string, kids ...spec) spec { return spec{op: op, s: s, kids: kids} }

// lay is the tree of a spec, with kids ahead of what has them; each node's At is its number.
func lay(root spec) api.Tree {
	var t api.Tree
	var put func(x spec) int
	put = func(x spec) int {
		var kids []int
		for _, k := range x.kids {
			kids = append(kids, put(k))
		}
		t = append(t, api.Node{Op: x.op, At: len(t), S: x.s, N: x.n, Kids: kids})
		return len(t) - 1
	}
	put(root)
	return t
}

func module(statements ...spec) spec { return node(api.SModule, "", statements...) }

func block(statements ...spec) spec { return node(api.SBlock, "", statements...) }

func name(s string) spec { return node(api.OName, s) }

func integer(n int64) spec { return spec{op: api.OInt, n: n} }

func pass() spec { return node(api.SPass, "") }

func expression(e spec) spec { return node(api.SExpr, "", e) }

func param(s string, kids ...spec) spec { return node(api.OParam, s, kids...) }

// copied is a tree of its own.
func copied(t api.Tree) api.Tree {
	t = slices.Clone(t)
	for i := range t {
		t[i].Kids = slices.Clone(t[i].Kids)
	}
	return t
}

// equal tells whether two trees are one, in all but whether what is empty is nil.
func equal(a, b api.Tree) bool {
	return slices.EqualFunc(a, b, func(x, y api.Node) bool {
		return x.Op == y.Op && x.At == y.At && x.S == y.S && x.N == y.N && slices.Equal(x.Kids, y.Kids)
	})
}

// rows are all rows of at most that many of the numbers.
func rows(numbers []int, most int) [][]int {
	all := [][]int{nil}
	for from := 0; most > 0; most-- {
		to := len(all)
		for _, row := range all[from:to] {
			for _, n := range numbers {
				all = append(all, append(slices.Clone(row), n))
			}
		}
		from = to
	}
	return all
}

// each goes through all trees of that many nodes with kids of rows of at most two of the numbers.
func each(nodes int, numbers []int, look func(t api.Tree)) {
	some := rows(numbers, 2)
	t := make(api.Tree, nodes)
	var set func(i int)
	set = func(i int) {
		if i == nodes {
			look(copied(t))
			return
		}
		for _, row := range some {
			t[i] = api.Node{Op: i, At: 7 * i, Kids: row}
			set(i + 1)
		}
	}
	set(0)
}

// example is the chapter's.
func example() api.Tree {
	return api.Tree{
		{Op: api.OName, S: "a"},
		{Op: api.OInt, At: 4, N: 2},
		{Op: api.OBin, S: "+", Kids: []int{0, 1}},
		{Op: api.SExpr, Kids: []int{2}},
		{Op: api.SModule, Kids: []int{3}},
	}
}

// chain is a tree in which each node has the one ahead as its kid.
func chain(nodes int) api.Tree {
	t := make(api.Tree, nodes)
	for i := 1; i < nodes; i++ {
		t[i].Kids = []int{i - 1}
	}
	return t
}

// doubled is a tree in which each node has the one ahead as its kid, three times, and the one ahead of that.
func doubled(nodes int) api.Tree {
	t := make(api.Tree, nodes)
	for i := 1; i < nodes; i++ {
		t[i].Kids = []int{i - 1, i - 1, i - 2, i - 1}
	}
	return t
}
