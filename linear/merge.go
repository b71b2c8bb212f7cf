package linear

import (
	"container/heap"
	"slices"
)

// number is what stands in rows.
type number interface{ int | int64 }

// merge is Merge, of numbers of classes too.
func merge[N number](rows ...[]N) ([]N, bool) {
	m := start(rows)
	var l []N
	for head := range m.heads {
		l = append(l, head)
	}
	for _, row := range m.rows {
		if len(row) > 0 {
			return nil, false
		}
	}
	return l, true
}

// merger is what is known while rows are merged, so that no row is looked at again and again for its head, or its tail.
type merger[N number] struct {
	// What is left of each row.
	rows  [][]N
	spots map[N]*spot
	// Of each number that is a head, and in no tail, the first row that has it.
	free queue
}

// spot is where a number stands: how often in tails, and the rows of which it is the head.
type spot struct {
	tails int
	heads []int
}

// start is a merger of rows of which nothing is given yet.
func start[N number](rows [][]N) *merger[N] {
	m := &merger[N]{rows: slices.Clone(rows), spots: map[N]*spot{}}
	for i, row := range rows {
		for k, n := range row {
			s := m.spot(n)
			if k > 0 {
				s.tails++
			} else {
				s.heads = append(s.heads, i)
			}
		}
	}
	for i, row := range rows {
		if len(row) > 0 && m.spot(row[0]).first(i) {
			heap.Push(&m.free, i)
		}
	}
	return m
}

// spot is that of a number.
func (m *merger[N]) spot(n N) *spot {
	s := m.spots[n]
	if s == nil {
		s = &spot{}
		m.spots[n] = s
	}
	return s
}

// first tells whether its number may be given, and the row is the first one that may give it.
func (s *spot) first(row int) bool { return s.tails == 0 && s.heads[0] == row }

// heads tells what the rows give, as long as one may give.
func (m *merger[N]) heads(yield func(N) bool) {
	for m.free.Len() > 0 && yield(m.give()) {
	}
}

// give is the next number of the answer, taken away from each row of which it is the head.
func (m *merger[N]) give() N {
	first := heap.Pop(&m.free).(int)
	head := m.rows[first][0]
	for _, row := range m.spot(head).heads {
		m.behead(row)
	}
	return head
}

// behead takes a row's head away, so that the next number is no more in its tail.
func (m *merger[N]) behead(row int) {
	m.rows[row] = m.rows[row][1:]
	if len(m.rows[row]) == 0 {
		return
	}
	s := m.spot(m.rows[row][0])
	s.tails--
	s.heads = append(s.heads, row)
	if s.tails == 0 {
		// In no tail means that no other row can come to have it as its head.
		heap.Push(&m.free, slices.Min(s.heads))
	}
}
