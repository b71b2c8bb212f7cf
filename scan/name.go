package scan

// Name tells whether a text is a name: keywords are none.
func Name(s string) bool {
	return s != "" && !isDigit(rune(s[0])) && wordSize(s) == len(s) && !Keyword(s)
}

// Keyword tells whether a text is one that no name may be.
func Keyword(s string) bool {
	switch s {
	case "None", "True", "False", "and", "or", "not", "if", "else", "elif",
		"while", "for", "in", "is", "break", "continue", "pass", "def", "class",
		"return", "raise", "try", "except", "as", "finally", "global",
		"nonlocal", "del", "assert", "yield", "lambda":
		return true
	}
	return false
}

// wordSize is how many letters, digits and _ a text begins with.
func wordSize(s string) int {
	for i, r := range s {
		if !isWord(r) {
			return i
		}
	}
	return len(s)
}

func isWord(r rune) bool {
	return r >= 'a' && r <= 'z' || r >= 'A' && r <= 'Z' || r == '_' || isDigit(r)
}

func isDigit(r rune) bool { return r >= '0' && r <= '9' }
