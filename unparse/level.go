package unparse

import "krait/api"

// How tight expressions bind: the greater the tighter.
const (
	levelLambda  = 0 // where it is the least one, no expression needs brackets
	levelIf      = 1
	levelOr      = 2
	levelAnd     = 3
	levelNot     = 4
	levelCompare = 5
	levelSum     = 6
	levelTerm    = 7
	levelFactor  = 8
	levelPower   = 9
	levelPostfix = 10
	levelAtom    = 11
)

func level(n api.Node) int {
	switch n.Op {
	case api.OLambda:
		return levelLambda
	case api.OIf:
		return levelIf
	case api.OOr:
		return levelOr
	case api.OAnd:
		return levelAnd
	case api.ONot:
		return levelNot
	case api.OCmp:
		return levelCompare
	case api.OBin:
		return arithmeticLevel(n.S)
	case api.ONeg:
		return levelFactor
	case api.OCall, api.OAttr, api.OIndex, api.OSlice:
		return levelPostfix
	}
	return levelAtom
}

func arithmeticLevel(operator string) int {
	switch operator {
	case "+", "-":
		return levelSum
	case "*", "//", "%":
		return levelTerm
	}
	return levelPower
}
