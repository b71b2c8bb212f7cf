package linear

import "sort"

// queue is rows that may give, the first one of which is asked for again and again.
type queue struct{ sort.IntSlice }

// Push is called by package heap alone.
func (q *queue) Push(row any) { q.IntSlice = append(q.IntSlice, row.(int)) }

// Pop is called by package heap alone.
func (q *queue) Pop() any {
	last := len(q.IntSlice) - 1
	row := q.IntSlice[last]
	q.IntSlice = q.IntSlice[:last]
	return row
}
