package linear_test

import (
	"math/rand"
	"slices"
	"testing"

	"krait/linear"
)

func TestP11_1MergeWithoutNumbers(t *testing.T) {
	if l, ok := linear.Merge(); len(l) != 0 || !ok {
		t.Errorf("of no row: %v, %v", l, ok)
	}
	if l, ok := linear.Merge(nil, []int64{}, nil); len(l) != 0 || !ok {
		t.Errorf("of empty rows: %v, %v", l, ok)
	}
	sameMerge(t, [][]int64{nil}, nil, true)
	sameMerge(t, [][]int64{{}, nil, {}}, nil, true)
}

func TestP11_1MergeRows(t *testing.T) {
	for _, x := range []struct {
		rows [][]int64
		want []int64
	}{
		{[][]int64{{5}}, []int64{5}},
		{[][]int64{{3, 1, 2}}, []int64{3, 1, 2}},
		{[][]int64{nil, {3, 1, 2}, {}}, []int64{3, 1, 2}},
		{[][]int64{{1}, {2}, {3}}, []int64{1, 2, 3}},
		{[][]int64{{3}, {2}, {1}}, []int64{3, 2, 1}},
		// The first row goes on giving, as long as it may.
		{[][]int64{{1, 2}, {3, 4}}, []int64{1, 2, 3, 4}},
		// 0 must wait until it is in no tail; then the first row gives again ahead of the others.
		{[][]int64{{1, 0}, {2, 0}, {1, 2}}, []int64{1, 2, 0}},
		{[][]int64{{0, 5}, {1, 0}, {2, 3}}, []int64{1, 0, 5, 2, 3}},
		{[][]int64{{0, 5}, {1, 0, 7}, {2, 1}, {3, 4}}, []int64{2, 1, 0, 5, 7, 3, 4}},
		{[][]int64{{1}, {2, 1}}, []int64{2, 1}},
		{[][]int64{{1}, {2}, {3, 1}}, []int64{2, 3, 1}},
		{[][]int64{{1, 3}, {2, 3}, {4}}, []int64{1, 2, 3, 4}},
		{[][]int64{{1}, {2}, {3, 1}, {3, 2}}, []int64{3, 1, 2}},
		// Which row is the first one that may give is not which came to be so first.
		{[][]int64{{4}, {5}, {6, 5}, {7, 4}}, []int64{6, 5, 7, 4}},
		{[][]int64{{4}, {5}, {6, 5, 4}}, []int64{6, 5, 4}},
		{[][]int64{{4, 8}, {5}, {6, 5}, {6, 4}}, []int64{6, 4, 8, 5}},
		// The same row, twice and more.
		{[][]int64{{1, 2}, {1, 2}}, []int64{1, 2}},
		{[][]int64{{1, 2, 3}, {1, 3}, {2, 3}, {1, 2, 3}, {3}, {3}}, []int64{1, 2, 3}},
		{[][]int64{{1}, {1}, {1}}, []int64{1}},
	} {
		sameMerge(t, x.rows, x.want, true)
	}
}

func TestP11_1MergeNumbers(t *testing.T) {
	sameMerge(t, [][]int64{{-1, 0}, {-2, -1}, {1, -2}}, []int64{1, -2, -1, 0}, true)
	sameMerge(t, [][]int64{{least, greatest}, {0}}, []int64{least, greatest, 0}, true)
	sameMerge(t, [][]int64{{least}, {greatest, least}}, []int64{greatest, least}, true)
	sameMerge(t, [][]int64{{least + 1}, {least}, {greatest - 1}, {greatest}}, []int64{least + 1, least, greatest - 1, greatest}, true)
	sameMerge(t, [][]int64{{least, greatest}, {greatest, least}}, nil, false)
	// Alike in their lower 32 bits.
	sameMerge(t, [][]int64{{1, 1 << 32}, {1<<32 + 1, 0}}, []int64{1, 1 << 32, 1<<32 + 1, 0}, true)
}

func TestP11_1MergeWithoutAnswer(t *testing.T) {
	for _, rows := range [][][]int64{
		{{1, 2}, {2, 1}},
		{{1, 2}, {2, 3}, {3, 1}},
		{{7, 1, 2}, {7, 2, 1}},
		{{1, 2}, {2, 1}, {3}, {4, 5}},
		{{4, 5}, {1, 2}, {3}, {2, 1}},
		{{1, 3, 2}, {2, 4, 1}},
		// A number stands twice in a row.
		{{1, 1}},
		{{0, 0, 0}},
		{{1, 2, 1}},
		{{2, 1, 3, 1}},
		{{5}, {1, 2, 2}},
		{{1, 1}, {5}},
		{{1}, {1, 1}},
		{{1}, {1}, {2, 3, 2}},
		{{greatest, greatest}},
	} {
		sameMerge(t, rows, nil, false)
	}
}

func TestP11_1MergeSpreadAndListed(t *testing.T) {
	rows := [][]int64{{1, 0}, {2, 0}, {1, 2}}
	spread, _ := linear.Merge(rows...)
	listed, _ := linear.Merge(rows[0], rows[1], rows[2])
	if want := []int64{1, 2, 0}; !slices.Equal(spread, want) || !slices.Equal(listed, want) {
		t.Errorf("%v, %v, want %v", spread, listed, want)
	}
	spread[0] = spare
	if again, _ := linear.Merge(rows...); again[0] != 1 || listed[0] != 1 {
		t.Errorf("answers share memory: %v, %v", again, listed)
	}
}

func TestP11_1MergeModelShortRows(t *testing.T) {
	rows := rowsOf[int64](3, 1, 2, 3)
	for _, a := range rows {
		for _, b := range rows {
			for _, c := range rows {
				l := [][]int64{a, b, c}
				want, ok := merge(l)
				sameMerge(t, l, want, ok)
			}
		}
	}
}

func TestP11_1MergeModelManyRows(t *testing.T) {
	some := [][]int64{{}, {1}, {2}, {3, 1}, {2, 3}, {4, 2}, {1, 4}, {5, 3, 1}}
	var grow func(l [][]int64)
	grow = func(l [][]int64) {
		want, ok := merge(l)
		sameMerge(t, l, want, ok)
		if len(l) < 5 {
			for _, row := range some {
				grow(append(slices.Clip(l), row))
			}
		}
	}
	grow(nil)
}

func TestP11_1MergeModelAtRandom(t *testing.T) {
	yes := 0
	for seed := range int64(4000) {
		r := rand.New(rand.NewSource(seed))
		most := 1 + r.Intn(12)
		whole := mixed(r, most, most)
		var rows [][]int64
		for range r.Intn(9) {
			var row []int64
			for _, n := range whole {
				if r.Intn(3) == 0 {
					row = append(row, n)
				}
			}
			if r.Intn(15) == 0 {
				row = mixed(r, most, r.Intn(most+1))
			}
			if r.Intn(40) == 0 && len(row) > 0 {
				row = append(row, row[r.Intn(len(row))])
			}
			rows = append(rows, row)
		}
		want, ok := merge(rows)
		sameMerge(t, rows, want, ok)
		if ok {
			yes++
		}
	}
	if yes < 1000 || yes > 3900 {
		t.Errorf("%d of 4000 have an answer", yes)
	}
}

func TestP11_1MergeKeepsRowsWhereAnyRowDoes(t *testing.T) {
	var wholes [][]int64
	for _, row := range rowsOf[int64](4, 1, 2, 3, 4) {
		if len(row) == 4 && once(row) {
			wholes = append(wholes, row)
		}
	}
	rows := rowsOf[int64](2, 1, 2, 3, 4)
	for seed := range int64(3000) {
		r := rand.New(rand.NewSource(seed))
		var l [][]int64
		for range 1 + r.Intn(6) {
			l = append(l, rows[r.Intn(len(rows))])
		}
		may := slices.ContainsFunc(wholes, func(whole []int64) bool {
			return !slices.ContainsFunc(l, func(row []int64) bool { return !within(row, whole) })
		})
		got, ok := linear.Merge(l...)
		if ok != may {
			t.Fatalf("Merge %v: %v, want %v", l, ok, may)
		}
		for _, row := range l {
			if ok && (!within(row, got) || !once(got)) {
				t.Fatalf("Merge %v: %v does not keep %v", l, got, row)
			}
		}
	}
}

func TestP11_1MergeOfManyRows(t *testing.T) {
	const n = 100000
	// Each number but the last is in the next row's tail: the rows give from the last one on.
	var back, apart [][]int64
	for i := range int64(n) {
		back = append(back, []int64{i + 1, i})
		apart = append(apart, []int64{i})
	}
	got, ok := linear.Merge(back...)
	if !ok || len(got) != n+1 {
		t.Fatalf("%d numbers, %v", len(got), ok)
	}
	for i, x := range got {
		if x != int64(n-i) {
			t.Fatalf("at %d: %d", i, x)
		}
	}
	got, ok = linear.Merge(apart...)
	if !ok || len(got) != n || got[n-1] != n-1 {
		t.Fatalf("%d numbers, %v", len(got), ok)
	}
	if got, ok = linear.Merge(append(back, []int64{0, n})...); got != nil || ok {
		t.Errorf("of a circle: %d numbers, %v", len(got), ok)
	}
}

func TestP11_1MergeOfLongRows(t *testing.T) {
	const n = 100000
	row := make([]int64, n)
	for i := range row {
		row[i] = int64(i*7919%n) - n/2
	}
	even, odd := []int64{}, []int64{}
	for i, x := range row {
		if i%2 == 0 {
			even = append(even, x)
		} else {
			odd = append(odd, x)
		}
	}
	got, ok := linear.Merge(odd, even, row, nil, even)
	if !ok || !slices.Equal(got, row) {
		t.Errorf("%d numbers, %v", len(got), ok)
	}
	if got, ok = linear.Merge(even, append(slices.Clip(row), row[n/2])); got != nil || ok {
		t.Errorf("of a row with a number twice: %d numbers, %v", len(got), ok)
	}
}
