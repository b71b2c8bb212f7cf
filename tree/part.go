package tree

import (
	"math"

	"krait/api"
)

// test tells of a node of a tree, all of whose Kids are kids, whether it is as it must be.
type test func(t api.Tree, n api.Node) bool

// part is a stretch of a row of kids: what each one must be, and how many there are.
type part struct {
	is          test
	least, most int
}

func one(is test) part     { return part{is, 1, 1} }
func perhaps(is test) part { return part{is, 0, 1} }
func many(is test) part    { return part{is, 0, math.MaxInt} }

// of asks for such an S, N 0, and these kids. Each part takes all that it can: no row has a part that then lacks what it must have.
func of(text func(s string) bool, parts ...part) test {
	return func(t api.Tree, n api.Node) bool {
		if n.N != 0 || !text(n.S) {
			return false
		}
		rest := n.Kids
		for _, p := range parts {
			count := 0
			for count < p.most && count < len(rest) && p.is(t, t[rest[count]]) {
				count++
			}
			if count < p.least {
				return false
			}
			rest = rest[count:]
		}
		return len(rest) == 0
	}
}

func both(a, b test) test {
	return func(t api.Tree, n api.Node) bool { return a(t, n) && b(t, n) }
}

func either(a, b test) test {
	return func(t api.Tree, n api.Node) bool { return a(t, n) || b(t, n) }
}

func op(kind int) test {
	return func(t api.Tree, n api.Node) bool { return n.Op == kind }
}

func expr(t api.Tree, n api.Node) bool { return n.Op >= api.ONone && n.Op <= api.OLambda }

func statement(t api.Tree, n api.Node) bool {
	return n.Op >= api.SExpr && n.Op <= api.STry || n.Op >= api.SGlobal && n.Op <= api.SYield
}

func target(t api.Tree, n api.Node) bool {
	return n.Op == api.OName || n.Op == api.OAttr || n.Op == api.OIndex
}

// wide tells whether a node is a target, or a tuple of these.
func wide(t api.Tree, n api.Node) bool {
	if n.Op != api.OTuple {
		return target(t, n)
	}
	for _, kid := range n.Kids {
		if !target(t, t[kid]) {
			return false
		}
	}
	return len(n.Kids) > 0
}

func number(t api.Tree, n api.Node) bool { return n.S == "" && n.N >= 0 && len(n.Kids) == 0 }

func even(t api.Tree, n api.Node) bool { return len(n.Kids)%2 == 0 }

// defaultsLast tells whether no parameter without a default stands behind one that has one.
func defaultsLast(t api.Tree, n api.Node) bool {
	// The last kid is what the parameters are for.
	params := n.Kids[:len(n.Kids)-1]
	seen := false
	for _, kid := range params {
		has := len(t[kid].Kids) > 0
		if seen && !has {
			return false
		}
		seen = has
	}
	return true
}

// guarded tells whether a try has a handler, or a final block, and no handler stands behind one that takes all.
func guarded(t api.Tree, n api.Node) bool {
	takesAll := false
	for _, kid := range n.Kids[1:] {
		if takesAll && t[kid].Op == api.SHandler {
			return false
		}
		takesAll = len(t[kid].Kids) == 1
	}
	return len(n.Kids) > 1
}
