package tree

import (
	"slices"

	"krait/api"
)

// Builder puts a tree together from its leaves.
type Builder struct{ nodes api.Tree }

// Add adds a node, and is its number.
func (b *Builder) Add(op, at int, s string, n int64, kids ...int) int {
	if b == nil {
		return -1
	}
	number := len(b.nodes)
	row := slices.Collect(ahead(kids, number))
	b.nodes = append(b.nodes, api.Node{Op: op, At: at, S: s, N: n, Kids: row})
	return number
}

// Tree is all, with the last one added as the root: what it does not reach is left out.
func (b *Builder) Tree() api.Tree {
	if b == nil {
		return nil
	}
	var t api.Tree
	numbers := map[int]int{}
	for _, old := range slices.Sorted(below(b.nodes, len(b.nodes)-1)) {
		n := b.nodes[old]
		n.Kids = slices.Clone(n.Kids)
		for i, kid := range n.Kids {
			n.Kids[i] = numbers[kid]
		}
		numbers[old] = len(t)
		t = append(t, n)
	}
	return t
}
