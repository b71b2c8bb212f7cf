package number_test

import (
	"math/rand"
	"strings"
	"testing"

	"krait/number"
)

func TestP8_1Sums(t *testing.T) {
	expect(t,
		does{"+", 1, 2, 3}, does{"+", -1, 2, 1}, does{"+", 0, 0, 0}, does{"+", -3, -4, -7},
		does{"+", greatest - 1, 1, greatest}, does{"+", 1, greatest - 1, greatest}, does{"+", greatest, 0, greatest},
		does{"+", least + 1, -1, least}, does{"+", -1, least + 1, least}, does{"+", 0, least, least},
		does{"+", greatest, least, -1}, does{"+", least, greatest, -1}, does{"+", 1 << 62, 1<<62 - 1, greatest}, does{"+", -1 << 62, -1 << 62, least},
	)
	refuse(t,
		raises{"+", greatest, 1, overflow}, raises{"+", 1, greatest, overflow}, raises{"+", greatest, greatest, overflow}, raises{"+", 1 << 62, 1 << 62, overflow},
		raises{"+", least, -1, overflow}, raises{"+", -1, least, overflow}, raises{"+", least, least, overflow}, raises{"+", -1 << 62, -1<<62 - 1, overflow},
	)
}

func TestP8_1Differences(t *testing.T) {
	expect(t,
		does{"-", 1, 2, -1}, does{"-", 2, 1, 1}, does{"-", 0, 0, 0}, does{"-", -3, -4, 1}, does{"-", -3, 4, -7},
		does{"-", greatest - 1, -1, greatest}, does{"-", 0, greatest, -greatest}, does{"-", -1, least, greatest}, does{"-", greatest, 0, greatest},
		does{"-", least + 1, 1, least}, does{"-", least, 0, least}, does{"-", -1, greatest, least}, does{"-", 0, least + 1, greatest},
		does{"-", least, least, 0}, does{"-", greatest, greatest, 0},
	)
	refuse(t,
		raises{"-", greatest, -1, overflow}, raises{"-", 0, least, overflow}, raises{"-", 1, least, overflow}, raises{"-", greatest, least, overflow}, raises{"-", 1 << 62, -1 << 62, overflow},
		raises{"-", least, 1, overflow}, raises{"-", -2, greatest, overflow}, raises{"-", least, greatest, overflow}, raises{"-", -1<<62 - 1, 1 << 62, overflow},
	)
}

func TestP8_1Products(t *testing.T) {
	expect(t,
		does{"*", 6, 7, 42}, does{"*", -6, 7, -42}, does{"*", 6, -7, -42}, does{"*", -6, -7, 42}, does{"*", 1, 1, 1},
		does{"*", 0, least, 0}, does{"*", least, 0, 0}, does{"*", greatest, 0, 0}, does{"*", 0, 0, 0}, does{"*", 0, -1, 0}, does{"*", -1, 0, 0},
		does{"*", 1, least, least}, does{"*", least, 1, least}, does{"*", -1, greatest, -greatest}, does{"*", greatest, -1, -greatest}, does{"*", -1, least + 1, greatest},
		does{"*", 7, 1317624576693539401, greatest}, does{"*", -1317624576693539401, -7, greatest},
		does{"*", 3037000499, 3037000499, 9223372030926249001}, does{"*", 1 << 31, -1 << 32, least}, does{"*", -2, 1 << 62, least}, does{"*", 1 << 62, -2, least},
	)
	refuse(t,
		raises{"*", -1, least, overflow}, raises{"*", least, -1, overflow}, raises{"*", least, least, overflow}, raises{"*", greatest, greatest, overflow}, raises{"*", greatest, least, overflow},
		raises{"*", 1 << 62, 2, overflow}, raises{"*", -2, -1 << 62, overflow}, raises{"*", 1 << 31, 1 << 32, overflow}, raises{"*", -1 << 31, -1 << 32, overflow},
		raises{"*", 1 << 32, 1 << 32, overflow}, raises{"*", least, 2, overflow}, raises{"*", 2, least, overflow}, raises{"*", 3037000500, 3037000500, overflow},
		raises{"*", 3, 6148914691236517206, overflow}, raises{"*", -3, 3074457345618258603, overflow}, raises{"*", 1 << 33, 1<<31 + 1, overflow},
	)
}

func TestP8_1Quotients(t *testing.T) {
	expect(t,
		does{"//", 7, 2, 3}, does{"//", -7, 2, -4}, does{"//", 7, -2, -4}, does{"//", -7, -2, 3},
		does{"//", 6, 2, 3}, does{"//", -6, 2, -3}, does{"//", 6, -2, -3}, does{"//", -6, -2, 3},
		does{"//", 0, 5, 0}, does{"//", 0, -5, 0}, does{"//", 1, 5, 0}, does{"//", -1, 5, -1}, does{"//", 1, -5, -1}, does{"//", -1, -5, 0},
		does{"//", 0, -1, 0}, does{"//", 5, -1, -5}, does{"//", -5, -1, 5},
		does{"//", least, 1, least}, does{"//", least + 1, -1, greatest}, does{"//", greatest, -1, -greatest}, does{"//", least, 2, -1 << 62}, does{"//", least, -2, 1 << 62},
		does{"//", least, least, 1}, does{"//", greatest, greatest, 1}, does{"//", greatest, least, -1}, does{"//", least, greatest, -2}, does{"//", 1, least, -1}, does{"//", -1, least, 0}, does{"//", -1, greatest, -1},
	)
	refuse(t,
		raises{"//", 0, 0, zero}, raises{"//", 1, 0, zero}, raises{"//", -1, 0, zero}, raises{"//", least, 0, zero}, raises{"//", greatest, 0, zero},
		raises{"//", least, -1, overflow},
	)
}

func TestP8_1Remainders(t *testing.T) {
	expect(t,
		does{"%", 7, 2, 1}, does{"%", -7, 2, 1}, does{"%", 7, -2, -1}, does{"%", -7, -2, -1},
		does{"%", 6, 2, 0}, does{"%", -6, 2, 0}, does{"%", 6, -2, 0}, does{"%", -6, -2, 0},
		does{"%", 0, 5, 0}, does{"%", 0, -5, 0}, does{"%", 1, 5, 1}, does{"%", -1, 5, 4}, does{"%", 1, -5, -4}, does{"%", -1, -5, -1},
		does{"%", least, -1, 0}, does{"%", least, 1, 0}, does{"%", greatest, -1, 0}, does{"%", 0, -1, 0}, does{"%", least, 10, 2}, does{"%", least, -10, -8},
		does{"%", least, least, 0}, does{"%", greatest, least, -1}, does{"%", least, greatest, greatest - 1}, does{"%", 1, least, least + 1}, does{"%", -1, least, -1}, does{"%", -1, greatest, greatest - 1},
	)
	refuse(t,
		raises{"%", 0, 0, zero}, raises{"%", 1, 0, zero}, raises{"%", -1, 0, zero}, raises{"%", least, 0, zero}, raises{"%", greatest, 0, zero},
	)
}

func TestP8_1Powers(t *testing.T) {
	expect(t,
		does{"**", 2, 10, 1024}, does{"**", -2, 3, -8}, does{"**", -2, 4, 16}, does{"**", 5, 1, 5}, does{"**", -5, 1, -5}, does{"**", 7, 2, 49},
		does{"**", 0, 0, 1}, does{"**", 5, 0, 1}, does{"**", -5, 0, 1}, does{"**", least, 0, 1}, does{"**", greatest, 0, 1},
		does{"**", 0, 1, 0}, does{"**", 0, greatest, 0}, does{"**", 1, greatest, 1}, does{"**", -1, greatest, -1}, does{"**", -1, greatest - 1, 1}, does{"**", -1, 1 << 62, 1},
		does{"**", 2, 62, 1 << 62}, does{"**", -2, 62, 1 << 62}, does{"**", -2, 63, least}, does{"**", -8, 21, least}, does{"**", -128, 9, least}, does{"**", -512, 7, least}, does{"**", -1 << 21, 3, least},
		does{"**", least, 1, least}, does{"**", greatest, 1, greatest}, does{"**", 3, 39, 4052555153018976267}, does{"**", -3, 39, -4052555153018976267},
		does{"**", 10, 18, 1e18}, does{"**", -10, 18, 1e18}, does{"**", 3037000499, 2, 9223372030926249001}, does{"**", -3037000499, 2, 9223372030926249001}, does{"**", 1<<21 - 1, 3, 9223358842721533951},
	)
	refuse(t,
		raises{"**", 2, 63, overflow}, raises{"**", 2, 64, overflow}, raises{"**", -2, 64, overflow}, raises{"**", -2, 65, overflow}, raises{"**", 2, 65, overflow},
		raises{"**", 3, 40, overflow}, raises{"**", -3, 41, overflow}, raises{"**", 10, 19, overflow}, raises{"**", -10, 19, overflow}, raises{"**", 1 << 21, 3, overflow}, raises{"**", 3037000500, 2, overflow}, raises{"**", -3037000500, 2, overflow},
		raises{"**", least, 2, overflow}, raises{"**", least, 3, overflow}, raises{"**", greatest, 2, overflow}, raises{"**", greatest, greatest, overflow}, raises{"**", least, greatest, overflow},
		raises{"**", 2, greatest, overflow}, raises{"**", -2, greatest, overflow}, raises{"**", 2, 1 << 32, overflow}, raises{"**", 1 << 32, 2, overflow}, raises{"**", 1 << 16, 4, overflow}, raises{"**", 1 << 32, 1 << 62, overflow},
	)
	for _, a := range ends() {
		refuse(t, raises{"**", a, -1, wrong}, raises{"**", a, -2, wrong}, raises{"**", a, least, wrong})
	}
}

func TestP8_1NoOperators(t *testing.T) {
	rows := []string{"", "/", "++", "--", "***", "*/", "/ /", "///", "%%", " +", "+ ", "+\x00", "+=", "-=", "//=", "**=", "=", "==", "!=", "<", "<=", ">", ">=", "<<", ">>", "&", "|", "^", "~", "@", "in", "not in", "is", "is not", "and", "or", "not", "add", "+-", "-+", "\xff", "\u2212", "\u00d7", strings.Repeat("*", 100000)}
	for _, op := range rows {
		for _, b := range []int64{0, 1, -1, 2, least, greatest} {
			refuse(t, raises{op, 0, b, unknown}, raises{op, 7, b, unknown}, raises{op, least, b, unknown}, raises{op, greatest, b, unknown})
		}
	}
}

// All texts of at most two bytes, and those of three that the operators' bytes make.
func TestP8_1EachShortText(t *testing.T) {
	each := func(op string) {
		hold(t, op, 7, 2)
		hold(t, op, 7, 0)
		hold(t, op, least, -1)
	}
	for i := range 256 {
		each(string([]byte{byte(i)}))
		for j := range 256 {
			each(string([]byte{byte(i), byte(j)}))
		}
	}
	const bytes = "+-*/%"
	for _, x := range bytes {
		for _, y := range bytes {
			for _, z := range bytes {
				each(string([]rune{x, y, z}))
			}
		}
	}
}

func TestP8_1AtTheEnds(t *testing.T) {
	for _, op := range operators() {
		for _, a := range ends() {
			for _, b := range ends() {
				hold(t, op, a, b)
			}
		}
	}
}

func TestP8_1SmallInts(t *testing.T) {
	for _, op := range operators() {
		for a := int64(-70); a <= 70; a++ {
			for b := int64(-70); b <= 70; b++ {
				hold(t, op, a, b)
			}
		}
	}
}

func TestP8_1AnyInts(t *testing.T) {
	r := rand.New(rand.NewSource(8))
	for range 100000 {
		a, b := anyInt(r), anyInt(r)
		for _, op := range operators() {
			hold(t, op, a, b)
		}
		hold(t, "**", a, b&63)
		if b == 0 {
			continue
		}
		// Around what just is an int, and just is none.
		for _, end := range []int64{least, greatest} {
			near := end - b
			for i := int64(-2); i <= 2; i++ {
				hold(t, "+", near+i, b)
				hold(t, "-", near+i, -b)
				hold(t, "*", end/b+i, b)
			}
		}
	}
}

// The last power of each int that is one, and the next.
func TestP8_1PowersNearTheEnds(t *testing.T) {
	for a := int64(2); a < 3000; a++ {
		for b := int64(1); ; b++ {
			_, up := model("**", a, b)
			_, down := model("**", -a, b)
			if up != "" && down != "" {
				break
			}
			for _, times := range []int64{b, b + 1} {
				hold(t, "**", a, times)
				hold(t, "**", -a, times)
			}
		}
	}
}

// Where they are told, a is b times (a // b), and (a % b) more; that is between 0 and b.
func TestP8_1QuotientAndRemainder(t *testing.T) {
	r := rand.New(rand.NewSource(81))
	apart := func(a, b int64) {
		t.Helper()
		q, raised := number.Do("//", a, b)
		m, none := number.Do("%", a, b)
		switch {
		case raised != "" || none != "":
			if b != 0 && (a != least || b != -1) {
				t.Errorf("%d by %d: %s, %s", a, b, raised, none)
			}
		case b*q+m != a, b > 0 && (m < 0 || m >= b), b < 0 && (m > 0 || m <= b):
			t.Errorf("%d by %d: %d, %d", a, b, q, m)
		}
	}
	for _, a := range ends() {
		for _, b := range ends() {
			apart(a, b)
		}
	}
	for range 100000 {
		apart(anyInt(r), anyInt(r))
	}
}

func TestP8_2Neg(t *testing.T) {
	for a, want := range map[int64]int64{0: 0, 1: -1, -1: 1, 7: -7, -7: 7, greatest: -greatest, -greatest: greatest, greatest - 1: least + 2, least + 2: greatest - 1, 1 << 62: -1 << 62, -1 << 62: 1 << 62} {
		if n, class := number.Neg(a); n != want || class != "" {
			t.Errorf("less %d: %d, %q", a, n, class)
		}
	}
	if n, class := number.Neg(least); n != 0 || class != overflow {
		t.Errorf("less the least one: %d, %q", n, class)
	}
}

func TestP8_2NegIsZeroLess(t *testing.T) {
	r := rand.New(rand.NewSource(82))
	row := ends()
	for range 10000 {
		row = append(row, anyInt(r))
	}
	for _, a := range row {
		n, class := number.Neg(a)
		if want, c := model("-", 0, a); n != want || class != c {
			t.Errorf("less %d: %d, %q, want %d, %q", a, n, class, want, c)
		}
	}
}
