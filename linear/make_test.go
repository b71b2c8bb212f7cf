package linear_test

import (
	"math"
	"math/rand"
	"slices"
	"testing"

	"krait/linear"
)

const (
	least    = math.MinInt64
	greatest = math.MaxInt64
)

// spare is what stands behind each row that is handed in, so that it is seen if something is put there.
const spare = 77

// padded is a row with room behind it, in which spare stands.
func padded[N int | int64](row []N) []N {
	return append(append(make([]N, 0, len(row)+2), row...), spare, spare)[:len(row)]
}

// paddedAll is rows, each of which is padded, with a row behind them that is not handed in.
func paddedAll[N int | int64](rows [][]N) [][]N {
	l := make([][]N, 0, len(rows)+1)
	for _, row := range rows {
		l = append(l, padded(row))
	}
	return append(l, []N{spare})[:len(rows)]
}

// unchanged holds rows that were handed in, made by paddedAll, to what they were.
func unchanged[N int | int64](t *testing.T, got, want [][]N) {
	t.Helper()
	for i, row := range got {
		if !slices.Equal(row, want[i]) || !slices.Equal(row[len(row):len(row)+2], []N{spare, spare}) {
			t.Fatalf("row %d was %v, is %v, with %v behind it", i, want[i], row, row[len(row):len(row)+2])
		}
	}
	if behind := got[len(got) : len(got)+1]; !slices.Equal(behind[0], []N{spare}) {
		t.Fatalf("behind the rows stands %v", behind[0])
	}
}

// merge is what the chapter says Merge is, word by word.
func merge(rows [][]int64) ([]int64, bool) {
	rows = slices.Clone(rows)
	var l []int64
	for slices.ContainsFunc(rows, func(row []int64) bool { return len(row) > 0 }) {
		next := slices.IndexFunc(rows, func(row []int64) bool {
			return len(row) > 0 && !slices.ContainsFunc(rows, func(other []int64) bool {
				return len(other) > 0 && slices.Contains(other[1:], row[0])
			})
		})
		if next < 0 {
			return nil, false
		}
		head := rows[next][0]
		l = append(l, head)
		for i, row := range rows {
			if len(row) > 0 && row[0] == head {
				rows[i] = row[1:]
			}
		}
	}
	return l, true
}

// order is what the chapter says Order is.
func order(class int64, bases []int64, orders [][]int64) ([]int64, bool) {
	l, ok := merge(append(slices.Clone(orders), bases))
	if !ok || slices.Contains(l, class) {
		return nil, false
	}
	return append([]int64{class}, l...), true
}

// all is what the chapter says All is.
func all(bases [][]int) ([][]int, bool) {
	var l [][]int
	for class, its := range bases {
		var orders [][]int64
		for _, base := range its {
			if base < 0 || base >= class {
				return nil, false
			}
			orders = append(orders, as[int64](l[base]))
		}
		o, ok := order(int64(class), as[int64](its), orders)
		if !ok {
			return nil, false
		}
		l = append(l, as[int](o))
	}
	return l, true
}

// as is a row of other ints.
func as[N, M int | int64](row []M) []N {
	l := make([]N, len(row))
	for i, n := range row {
		l[i] = N(n)
	}
	return l
}

// rowsOf tells all rows of some numbers that are at most so long, the empty one first.
func rowsOf[N int | int64](most int, numbers ...N) [][]N {
	l := [][]N{{}}
	for from := 0; most > 0; most-- {
		to := len(l)
		for _, row := range l[from:to] {
			for _, n := range numbers {
				l = append(l, append(slices.Clone(row), n))
			}
		}
		from = to
	}
	return l
}

// within tells whether a row's numbers stand in another one in their order.
func within[N int | int64](row, other []N) bool {
	for _, n := range other {
		if len(row) > 0 && row[0] == n {
			row = row[1:]
		}
	}
	return len(row) == 0
}

// once tells whether no number of a row stands twice in it.
func once[N int | int64](row []N) bool {
	row = slices.Sorted(slices.Values(row))
	return len(slices.Compact(slices.Clone(row))) == len(row)
}

// sameMerge holds what Merge tells of rows to what is wanted, and to the rows, which must stay.
func sameMerge(t *testing.T, rows [][]int64, want []int64, ok bool) {
	t.Helper()
	given := paddedAll(rows)
	got, is := linear.Merge(given...)
	if is != ok || !slices.Equal(got, want) {
		t.Fatalf("Merge %v: %v, %v, want %v, %v", rows, got, is, want, ok)
	}
	for i := range got {
		got[:cap(got)][i] = spare
	}
	unchanged(t, given, rows)
}

// sameOrder does so of Order.
func sameOrder(t *testing.T, class int64, bases []int64, orders [][]int64, want []int64, ok bool) {
	t.Helper()
	given, givenBases := paddedAll(orders), paddedAll([][]int64{bases})
	got, is := linear.Order(class, givenBases[0], given)
	if is != ok || !slices.Equal(got, want) {
		t.Fatalf("Order %d, %v, %v: %v, %v, want %v, %v", class, bases, orders, got, is, want, ok)
	}
	for i := range got {
		got[i] = spare
	}
	unchanged(t, given, orders)
	unchanged(t, givenBases, [][]int64{bases})
}

// sameAll does so of All, and holds that no two of the orders share memory.
func sameAll(t *testing.T, bases, want [][]int, ok bool) {
	t.Helper()
	given := paddedAll(bases)
	got, is := linear.All(given)
	if is != ok || !slices.EqualFunc(got, want, slices.Equal) {
		t.Fatalf("All %v: %v, %v, want %v, %v", bases, got, is, want, ok)
	}
	for i, row := range got {
		if !slices.Equal(row, want[i]) {
			t.Fatalf("All %v: order %d shares memory with another one", bases, i)
		}
		row = row[:cap(row)]
		for k := range row {
			row[k] = spare
		}
	}
	unchanged(t, given, bases)
}

// mixed is a row of some different numbers below most, in some order.
func mixed(r *rand.Rand, most, n int) []int64 { return as[int64](r.Perm(most)[:min(most, n)]) }
