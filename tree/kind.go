package tree

import (
	"strings"

	"krait/api"
	"krait/scan"
)

// kinds are what a node of each kind must be, where all Kids are kids.
func kinds() map[int]test {
	bare := of(empty)
	unary := of(empty, one(expr))
	binary := of(empty, one(expr), one(expr))
	ternary := of(empty, one(expr), one(expr), one(expr))
	row := of(empty, many(expr))
	param, block, handler, final := op(api.OParam), op(api.SBlock), op(api.SHandler), op(api.SFinal)
	return map[int]test{
		api.ONone:     bare,
		api.OTrue:     bare,
		api.OFalse:    bare,
		api.OInt:      number,
		api.OStr:      of(short),
		api.OName:     of(scan.Name),
		api.OList:     row,
		api.OTuple:    row,
		api.ODict:     both(row, even),
		api.ONeg:      unary,
		api.ONot:      unary,
		api.OBin:      of(arithmetic, one(expr), one(expr)),
		api.OCmp:      of(comparison, one(expr), one(expr)),
		api.OAnd:      binary,
		api.OOr:       binary,
		api.OIf:       ternary,
		api.OCall:     of(empty, one(expr), many(expr)),
		api.OAttr:     of(scan.Name, one(expr)),
		api.OIndex:    binary,
		api.OSlice:    ternary,
		api.OLambda:   both(of(empty, many(param), one(expr)), defaultsLast),
		api.OParam:    of(scan.Name, perhaps(expr)),
		api.SModule:   of(empty, many(statement)),
		api.SBlock:    of(empty, one(statement), many(statement)),
		api.SExpr:     unary,
		api.SAssign:   of(empty, one(wide), one(expr)),
		api.SAug:      of(arithmetic, one(target), one(expr)),
		api.SIf:       of(empty, one(expr), one(block), perhaps(block)),
		api.SWhile:    of(empty, one(expr), one(block)),
		api.SFor:      of(empty, one(wide), one(expr), one(block)),
		api.SBreak:    bare,
		api.SContinue: bare,
		api.SPass:     bare,
		api.SDef:      both(of(scan.Name, many(param), one(block)), defaultsLast),
		api.SClass:    of(scan.Name, many(expr), one(block)),
		api.SReturn:   of(empty, perhaps(expr)),
		api.SRaise:    of(empty, perhaps(expr)),
		api.STry:      both(of(empty, one(block), many(handler), perhaps(final)), guarded),
		api.SHandler:  either(of(nameOrEmpty, one(expr), one(block)), of(empty, one(block))),
		api.SFinal:    of(empty, one(block)),
		api.SGlobal:   of(names),
		api.SNonlocal: of(names),
		api.SDel:      of(empty, one(target)),
		api.SAssert:   of(empty, one(expr), perhaps(expr)),
		api.SYield:    unary,
	}
}

func empty(s string) bool { return s == "" }

func short(s string) bool { return len(s) <= api.MaxText }

func nameOrEmpty(s string) bool { return s == "" || scan.Name(s) }

// names tells whether a text is names, with one blank between each two.
func names(s string) bool {
	for name := range strings.SplitSeq(s, " ") {
		if !scan.Name(name) {
			return false
		}
	}
	return true
}

func arithmetic(s string) bool {
	switch s {
	case "+", "-", "*", "//", "%", "**":
		return true
	}
	return false
}

func comparison(s string) bool {
	switch s {
	case "==", "!=", "<", "<=", ">", ">=", "in", "not in", "is", "is not":
		return true
	}
	return false
}
