package number_test

import (
	"math"
	"math/big"
	"math/rand"
	"slices"
	"testing"

	"krait/number"
)

const (
	least    = math.MinInt64
	greatest = math.MaxInt64
)

const (
	overflow = "OverflowError"
	unknown  = "TypeError"
	wrong    = "ValueError"
	zero     = "ZeroDivisionError"
)

func operators() []string { return []string{"+", "-", "*", "//", "%", "**"} }

// does is what an operator is to make of two ints.
type does struct {
	op      string
	a, b, n int64
}

// raises is what class an operator is to raise of two ints.
type raises struct {
	op    string
	a, b  int64
	class string
}

func expect(t *testing.T, rows ...does) {
	t.Helper()
	for _, x := range rows {
		if n, class := number.Do(x.op, x.a, x.b); n != x.n || class != "" {
			t.Errorf("%d %s %d: %d, %q, want %d", x.a, x.op, x.b, n, class, x.n)
		}
	}
}

func refuse(t *testing.T, rows ...raises) {
	t.Helper()
	for _, x := range rows {
		if n, class := number.Do(x.op, x.a, x.b); n != 0 || class != x.class {
			t.Errorf("%d %s %d: %d, %q, want %s", x.a, x.op, x.b, n, class, x.class)
		}
	}
}

// hold holds an operator to what the chapter's words make of two ints.
func hold(t *testing.T, op string, a, b int64) {
	t.Helper()
	want, class := model(op, a, b)
	if n, c := number.Do(op, a, b); n != want || c != class {
		t.Errorf("%d %s %d: %d, %q, want %d, %q", a, op, b, n, c, want, class)
	}
}

// ends are ints at which, or near which, something may go round.
func ends() []int64 {
	var l []int64
	for _, near := range []int64{0, 10, 256, 55108, 1 << 21, 1 << 31, 1 << 32, 3037000499, 3037000500, 1 << 42, 1 << 53, 1e18, greatest / 10, greatest / 3, 1 << 62, greatest - 1} {
		l = append(l, near-1, near, near+1, 1-near, -near, -near-1)
	}
	for i := int64(2); i < 24; i++ {
		l = append(l, i, -i)
	}
	l = append(l, 62, 63, 64, 65, least, least+1, least/3, least/10)
	slices.Sort(l)
	return slices.Compact(l)
}

// anyInt is one of any length, below 0 too.
func anyInt(r *rand.Rand) int64 {
	return int64(r.Uint64()) >> r.Intn(64)
}

// model is Do by whole numbers without bounds.
func model(op string, a, b int64) (int64, string) {
	x, y, z := big.NewInt(a), big.NewInt(b), new(big.Int)
	switch op {
	case "+":
		z.Add(x, y)
	case "-":
		z.Sub(x, y)
	case "*":
		z.Mul(x, y)
	case "//", "%":
		if b == 0 {
			return 0, zero
		}
		times, more := roundedDown(x, y)
		if z = times; op == "%" {
			z = more
		}
	case "**":
		if b < 0 {
			return 0, wrong
		}
		z = timesOver(x, b)
	default:
		return 0, unknown
	}
	if !z.IsInt64() {
		return 0, overflow
	}
	return z.Int64(), ""
}

// roundedDown is the quotient, one lesser where the one that is nearer to 0 is too great, and what is more than that many times y.
func roundedDown(x, y *big.Int) (*big.Int, *big.Int) {
	q, r := new(big.Int).QuoRem(x, y, new(big.Int))
	if r.Sign() != 0 && r.Sign() != y.Sign() {
		q.Sub(q, big.NewInt(1))
		r.Add(r, y)
	}
	return q, r
}

// timesOver is 1, with x as a factor so many times; what is no int any more never becomes one again.
func timesOver(x *big.Int, times int64) *big.Int {
	if x.IsInt64() && x.Int64() >= -1 && x.Int64() <= 1 && times > 3 {
		times = 2 + times%2
	}
	z := big.NewInt(1)
	for ; times > 0 && z.IsInt64(); times-- {
		z.Mul(z, x)
	}
	return z
}
