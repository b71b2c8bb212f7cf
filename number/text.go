package number

// maxDigits is how many digits an int has at most.
const maxDigits = 19

// Text is an int as a text.
func Text(n int64) string {
	var room [1 + maxDigits]byte
	at := len(room)
	ahead := func(b byte) {
		at--
		room[at] = b
	}
	rest := size(n)
	for rest > 9 {
		ahead(byte('0' + rest%10))
		rest /= 10
	}
	ahead(byte('0' + rest))
	if n < 0 {
		ahead('-')
	}
	return string(room[at:])
}

// size is an int without its sign: that of the least one is no int.
func size(n int64) uint64 {
	if n < 0 {
		return -uint64(n)
	}
	return uint64(n)
}

// Parse is the int that a text says (digits, perhaps with - ahead), and whether it says one.
func Parse(s string) (int64, bool) {
	if s != "" && s[0] == '-' {
		n, ok := digits(s[1:], size(least))
		return int64(-n), ok
	}
	n, ok := digits(s, greatest)
	return int64(n), ok
}

// digits is what a text of digits says, if it has one, and says no more than most.
func digits(s string, most uint64) (uint64, bool) {
	n := uint64(0)
	for i := range len(s) {
		if s[i] < '0' || s[i] > '9' {
			return 0, false
		}
		digit := uint64(s[i] - '0')
		if n > (most-digit)/10 {
			return 0, false
		}
		n = n*10 + digit
	}
	return n, s != ""
}
