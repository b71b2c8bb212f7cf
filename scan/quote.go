package scan

import (
	"strconv"
	"strings"

	"krait/api"
)

// Quote is a str as a source has it.
func Quote(s string) string {
	var out strings.Builder
	out.Grow(len(s) + 2)
	out.WriteByte('\'')
	for i := range len(s) {
		quoteByte(&out, s[i])
	}
	out.WriteByte('\'')
	return out.String()
}

func quoteByte(out *strings.Builder, b byte) {
	const digits = "0123456789abcdef"
	switch {
	case b == '\n':
		out.WriteString(`\n`)
	case b == '\t':
		out.WriteString(`\t`)
	case b == '\\' || b == '\'':
		out.WriteByte('\\')
		out.WriteByte(b)
	case b < ' ' || b > '~':
		out.WriteString(`\x`)
		out.WriteByte(digits[b>>4])
		out.WriteByte(digits[b&15])
	default:
		out.WriteByte(b)
	}
}

// Unquote is what a text says that is one str of a source, and nothing else.
func Unquote(s string) (string, bool) {
	if s == "" || s[0] != '\'' && s[0] != '"' {
		return "", false
	}
	tok, size, e := strToken(s)
	if e != api.OK || size != len(s) {
		return "", false
	}
	return tok.Text, true
}

// strSize is how many bytes the str has that s begins with, if it ends; whether its escapes are right is left to unescape.
func strSize(s string) (int, bool) {
	escaped := false
	for i, r := range s[1:] {
		switch {
		case r < ' ':
			return 0, false
		case escaped:
			escaped = false
		case r == '\\':
			escaped = true
		case r == rune(s[0]):
			return i + 2, true
		}
	}
	return 0, false
}

// escapes are the bytes that single letters behind a \ say.
func escapes() map[byte]byte {
	return map[byte]byte{'n': '\n', 't': '\t', '\\': '\\', '\'': '\'', '"': '"'}
}

// unescape is what stands between the quotes, with each escape as the byte that it says.
func unescape(body string) (string, bool) {
	var out strings.Builder
	known := escapes()
	for {
		plain, rest, more := strings.Cut(body, `\`)
		out.WriteString(plain)
		if !more {
			return out.String(), true
		}
		b, size, ok := escape(rest, known)
		if !ok {
			return "", false
		}
		out.WriteByte(b)
		body = rest[size:]
	}
}

// escape is the byte that is said behind a \, and by how many bytes it is said.
func escape(s string, known map[byte]byte) (byte, int, bool) {
	if s == "" {
		return 0, 0, false
	}
	if s[0] == 'x' && len(s) > 2 {
		n, err := strconv.ParseUint(s[1:3], 16, 8)
		return byte(n), 3, err == nil
	}
	b, ok := known[s[0]]
	return b, 1, ok
}
