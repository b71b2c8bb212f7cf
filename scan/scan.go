// Package scan is layer 1, the lexer of a single line: see shared/doc/01-scan.md.
package scan

import (
	"strconv"
	"strings"

	"krait/api"
)

// operators stand longest first, so that the first one that fits is the longest one.
var operators = [...]string{
	"**=", "//=",
	"//", "**", "==", "!=", "<=", ">=", "+=", "-=", "*=", "%=",
	"+", "-", "*", "%", "<", ">", "=",
	"(", ")", "[", "]", "{", "}", ",", ":", ".",
}

// Line is the tokens of a source's line, which begins at a place: all in it (without TokLine); and where, and what, is wrong.
func Line(s string, at int) ([]api.Tok, int, api.Errno) {
	var tokens []api.Tok
	pos := 0
scanning:
	for pos < len(s) {
		switch s[pos] {
		case ' ':
			pos++
			continue
		case '#':
			break scanning
		}
		tok, size, e := token(s[pos:])
		if e != api.OK {
			return nil, at + pos, e
		}
		tok.At = at + pos
		tokens = append(tokens, tok)
		pos += size
	}
	return tokens, 0, api.OK
}

// token is the one with which s (not empty) begins, and how many bytes it has.
func token(s string) (api.Tok, int, api.Errno) {
	switch first := s[0]; {
	case first == '\'' || first == '"':
		return strToken(s)
	case isDigit(rune(first)):
		return intToken(s[:wordSize(s)])
	case isWord(rune(first)):
		return nameToken(s[:wordSize(s)])
	}
	return opToken(s)
}

func nameToken(word string) (api.Tok, int, api.Errno) {
	// A part of s would keep the whole line in memory as long as its token.
	return api.Tok{Kind: api.TokName, Text: strings.Clone(word)}, len(word), api.OK
}

func intToken(word string) (api.Tok, int, api.Errno) {
	if len(word) > 1 && word[0] == '0' {
		return api.Tok{}, 0, api.ErrNumber
	}
	n, err := strconv.ParseInt(word, 10, 64)
	if err != nil {
		return api.Tok{}, 0, api.ErrNumber
	}
	return api.Tok{Kind: api.TokInt, N: n}, len(word), api.OK
}

func strToken(s string) (api.Tok, int, api.Errno) {
	size, ok := strSize(s)
	if !ok {
		return api.Tok{}, 0, api.ErrString
	}
	text, ok := unescape(s[1 : size-1])
	if !ok || len(text) > api.MaxText {
		return api.Tok{}, 0, api.ErrString
	}
	return api.Tok{Kind: api.TokStr, Text: text}, size, api.OK
}

func opToken(s string) (api.Tok, int, api.Errno) {
	for _, op := range operators {
		if strings.HasPrefix(s, op) {
			return api.Tok{Kind: api.TokOp, Text: op}, len(op), api.OK
		}
	}
	return api.Tok{}, 0, api.ErrByte
}
