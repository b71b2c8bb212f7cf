package linear_test

import (
	"math/rand"
	"slices"
	"testing"

	"krait/linear"
)

func TestP11_2OrderWithoutBases(t *testing.T) {
	for _, class := range []int64{0, 1, -1, 40, least, greatest} {
		if l, ok := linear.Order(class, nil, nil); !ok || !slices.Equal(l, []int64{class}) {
			t.Errorf("Order %d: %v, %v", class, l, ok)
		}
		sameOrder(t, class, []int64{}, [][]int64{}, []int64{class}, true)
		sameOrder(t, class, nil, [][]int64{{}, nil}, []int64{class}, true)
	}
}

func TestP11_2OrderRows(t *testing.T) {
	for _, x := range []struct {
		class  int64
		bases  []int64
		orders [][]int64
		want   []int64
	}{
		{1, []int64{0}, [][]int64{{0}}, []int64{1, 0}},
		{3, []int64{1, 2}, [][]int64{{1, 0}, {2, 0}}, []int64{3, 1, 2, 0}},
		{3, []int64{2, 1}, [][]int64{{2, 0}, {1, 0}}, []int64{3, 2, 1, 0}},
		// The bases are a row too, the last one, and hold without orders.
		{3, []int64{2, 1}, nil, []int64{3, 2, 1}},
		{3, []int64{2, 1}, [][]int64{{1}}, []int64{3, 2, 1}},
		{9, []int64{5}, [][]int64{{1}, {2}}, []int64{9, 1, 2, 5}},
		{9, []int64{2, 1}, [][]int64{{1, 3}, {2, 4}}, []int64{9, 2, 1, 3, 4}},
		// Orders without bases hold too, in their order.
		{9, nil, [][]int64{{2, 1}, {3, 1}}, []int64{9, 2, 3, 1}},
		{9, nil, [][]int64{{3, 1}, {2, 1}}, []int64{9, 3, 2, 1}},
		{least, []int64{greatest, -1}, [][]int64{{greatest}, {-1}}, []int64{least, greatest, -1}},
		{greatest, []int64{least}, [][]int64{{least, 0}}, []int64{greatest, least, 0}},
	} {
		sameOrder(t, x.class, x.bases, x.orders, x.want, true)
	}
}

func TestP11_2OrderWithoutAnswer(t *testing.T) {
	for _, x := range []struct {
		bases  []int64
		orders [][]int64
	}{
		{[]int64{1, 2}, [][]int64{{2, 1}}},
		{[]int64{0, 1}, [][]int64{{0}, {1, 0}}},
		{[]int64{3, 4}, [][]int64{{3, 1, 2}, {4, 2, 1}}},
		{nil, [][]int64{{1, 2}, {2, 1}}},
		{[]int64{1, 1}, [][]int64{{1}, {1}}},
		{[]int64{1, 2, 1}, nil},
		{[]int64{1}, [][]int64{{1, 0, 0}}},
	} {
		sameOrder(t, 9, x.bases, x.orders, nil, false)
	}
}

func TestP11_2OrderOfWhatHasTheClass(t *testing.T) {
	sameOrder(t, 1, []int64{1}, nil, nil, false)
	sameOrder(t, 1, []int64{0}, [][]int64{{0, 1}}, nil, false)
	sameOrder(t, 1, []int64{0, 2}, [][]int64{{0, 1}, {2}}, nil, false)
	sameOrder(t, 1, nil, [][]int64{{1}}, nil, false)
	sameOrder(t, 1, nil, [][]int64{{0}, {1, 0}}, nil, false)
	sameOrder(t, least, []int64{0, least}, nil, nil, false)
	sameOrder(t, greatest, []int64{greatest, 0}, [][]int64{{greatest}}, nil, false)
	sameOrder(t, 1, []int64{0}, [][]int64{{0, 1 << 32}}, []int64{1, 0, 1 << 32}, true)
}

func TestP11_2OrderModelShortRows(t *testing.T) {
	rows := rowsOf[int64](2, 0, 1, 2, 3)
	for _, bases := range rows {
		for _, a := range rows {
			for _, b := range rows {
				l := [][]int64{a, b}
				want, ok := order(3, bases, l)
				sameOrder(t, 3, bases, l, want, ok)
			}
		}
	}
}

func TestP11_2OrderModelAtRandom(t *testing.T) {
	for seed := range int64(2000) {
		r := rand.New(rand.NewSource(seed))
		most := 1 + r.Intn(10)
		var bases []int64
		var orders [][]int64
		whole := mixed(r, most, most)
		for _, n := range whole {
			if r.Intn(4) == 0 {
				bases = append(bases, n)
			}
		}
		for range bases {
			var row []int64
			for _, n := range whole {
				if r.Intn(3) == 0 {
					row = append(row, n)
				}
			}
			orders = append(orders, row)
		}
		class := int64(r.Intn(3 * most))
		want, ok := order(class, bases, orders)
		sameOrder(t, class, bases, orders, want, ok)
	}
}
