package tree

import (
	"strconv"

	"krait/api"
)

// shape is all of a node that plays a part in Same; kids stand there by the numbers of their shapes.
type shape struct {
	op   int
	s    string
	n    int64
	kids string
}

// Same tells whether two trees are one, but for places.
func Same(a, b api.Tree) bool {
	if len(a) == 0 || len(b) == 0 {
		return len(a) == len(b)
	}
	known := map[shape]int{}
	return rootShape(a, known) == rootShape(b, known)
}

// rootShape is the number of the root's shape. Each node is looked at once, since one that stands below many others would else be gone over again and again.
func rootShape(t api.Tree, known map[shape]int) int {
	numbers := make([]int, len(t))
	for i, n := range t {
		var row []byte
		for kid := range kids(t, i) {
			row = strconv.AppendInt(row, int64(numbers[kid]), 10)
			row = append(row, ' ')
		}
		look := shape{n.Op, n.S, n.N, string(row)}
		number, ok := known[look]
		if !ok {
			number = len(known)
			known[look] = number
		}
		numbers[i] = number
	}
	return numbers[len(t)-1]
}
