package number_test

import (
	"math/big"
	"math/rand"
	"strconv"
	"strings"
	"testing"

	"krait/number"
)

func says(t *testing.T, s string, want int64) {
	t.Helper()
	if n, ok := number.Parse(s); n != want || !ok {
		t.Errorf("%.40q: %d, %v, want %d", s, n, ok, want)
	}
}

func saysNone(t *testing.T, s string) {
	t.Helper()
	if n, ok := number.Parse(s); n != 0 || ok {
		t.Errorf("%.40q: %d, %v, want none", s, n, ok)
	}
}

// holdText holds Parse to what the chapter's words make of a text.
func holdText(t *testing.T, s string) {
	t.Helper()
	bare := strings.TrimPrefix(s, "-")
	n, ok := new(big.Int).SetString(s, 10)
	if ok && bare != "" && strings.Trim(bare, "0123456789") == "" && n.IsInt64() {
		says(t, s, n.Int64())
	} else {
		saysNone(t, s)
	}
}

func TestP8_3Text(t *testing.T) {
	for n, want := range map[int64]string{
		0: "0", 1: "1", -1: "-1", 9: "9", 10: "10", -10: "-10", 99: "99", 100: "100", 101: "101", -907: "-907", 1234567890: "1234567890",
		greatest: "9223372036854775807", greatest - 7: "9223372036854775800", least: "-9223372036854775808", least + 1: "-9223372036854775807",
		1e18: "1000000000000000000", 1e18 - 1: "999999999999999999", -1e18: "-1000000000000000000",
	} {
		if s := number.Text(n); s != want {
			t.Errorf("%d is told as %q", n, s)
		}
	}
}

func again(t *testing.T, n int64) {
	t.Helper()
	s := number.Text(n)
	if want := strconv.FormatInt(n, 10); s != want {
		t.Errorf("%d is told as %q", n, s)
	}
	says(t, s, n)
}

func TestP8_3ParseOfTextIsTheInt(t *testing.T) {
	for _, n := range ends() {
		again(t, n)
	}
	for n := int64(-20000); n <= 20000; n++ {
		again(t, n)
		again(t, greatest-20000-n)
		again(t, least+20000+n)
	}
	for p := int64(1); p < greatest/10; p *= 10 {
		for i := int64(-2); i <= 2; i++ {
			for digit := int64(1); digit < 10; digit++ {
				again(t, digit*p+i)
				again(t, -digit*p+i)
			}
		}
	}
	r := rand.New(rand.NewSource(83))
	for range 100000 {
		again(t, anyInt(r))
	}
}

func TestP8_3Parse(t *testing.T) {
	for s, want := range map[string]int64{
		"0": 0, "-0": 0, "00": 0, "-00": 0, "7": 7, "-7": -7, "007": 7, "-007": -7, "10": 10, "0100": 100, "1234567890": 1234567890,
		"9223372036854775807": greatest, "-9223372036854775807": -greatest, "-9223372036854775808": least, "9223372036854775806": greatest - 1,
		"09223372036854775807": greatest, "-0009223372036854775808": least, "9199999999999999999": 9199999999999999999,
	} {
		says(t, s, want)
	}
	for _, s := range []string{
		"", "-", "--", "--1", "-+1", "+1", "+-1", "+", "1-", "1-1", "0-", "- 1", " 1", "1 ", " ", "1 2", "\t1", "1\n", "\n", "\x001", "1\x00",
		"a", "1a", "a1", "0x10", "1e3", "1_000", "1,000", "1.0", ".", "1.", "/", ":", "1/", "1:", "-/", "-:", "\u0661", "\uff11", "\u22121", "1\xff", "\xb1", "None", "True", "''", "'1'", "(1)",
		"9223372036854775808", "-9223372036854775809", "9223372036854775809", "9223372036854775810", "-9223372036854775810", "9300000000000000000", "-9300000000000000000", "10000000000000000000", "-10000000000000000000", "92233720368547758070", "-92233720368547758080",
		"0009223372036854775808", "-0009223372036854775809",
		"18446744073709551615", "18446744073709551616", "18446744073709551617", "-18446744073709551616", "-18446744073709551617", "184467440737095516170", "36893488147419103233", "340282366920938463463374607431768211457",
		"9223372036854775808a", "18446744073709551616-", "9223372036854775807 ", "-9223372036854775808-",
	} {
		saysNone(t, s)
	}
}

// Each byte alone, and ahead of, behind and between digits, with and without a minus.
func TestP8_3EachByte(t *testing.T) {
	for i := range 256 {
		b := string([]byte{byte(i)})
		for _, s := range []string{b, b + "5", "5" + b, "5" + b + "5", b + b, b + b + "5"} {
			holdText(t, s)
			holdText(t, "-"+s)
		}
	}
}

func TestP8_3EachShortText(t *testing.T) {
	const bytes = "0179-+ _.x"
	row := []string{""}
	for range 5 {
		var longer []string
		for _, s := range row {
			holdText(t, s)
			for _, b := range bytes {
				longer = append(longer, s+string(b))
			}
		}
		row = longer
	}
}

func TestP8_3AtTheEnds(t *testing.T) {
	for _, end := range []string{"9223372036854775807", "18446744073709551615", "92233720368547758070", "184467440737095516150"} {
		around, _ := new(big.Int).SetString(end, 10)
		for i := range int64(4000) {
			s := new(big.Int).Add(around, big.NewInt(i-2000)).String()
			for _, ahead := range []string{"", "0", "00000000000000000000"} {
				holdText(t, ahead+s)
				holdText(t, "-"+ahead+s)
			}
		}
	}
	for size := 15; size < 25; size++ {
		for digit := range 10 {
			s := strings.Repeat(strconv.Itoa(digit), size)
			for last := range 10 {
				holdText(t, s+strconv.Itoa(last))
				holdText(t, "-"+s+strconv.Itoa(last))
				holdText(t, strconv.Itoa(last)+s)
			}
		}
	}
}

// No text is too long to be answered.
func TestP8_3LongTexts(t *testing.T) {
	noughts := strings.Repeat("0", 1<<20)
	says(t, noughts, 0)
	says(t, "-"+noughts, 0)
	says(t, noughts+"7", 7)
	says(t, "-"+noughts+"9223372036854775808", least)
	says(t, noughts+"9223372036854775807", greatest)
	saysNone(t, noughts+"9223372036854775808")
	saysNone(t, "-"+noughts+"9223372036854775809")
	saysNone(t, noughts+"a")
	saysNone(t, "7"+noughts)
	saysNone(t, "1"+noughts)
	saysNone(t, "-1"+noughts)
	saysNone(t, strings.Repeat("9", 1<<20))
	saysNone(t, strings.Repeat("-", 1<<20))
}
