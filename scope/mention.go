package scope

import (
	"iter"
	"strings"

	"krait/api"
)

// mention is a name, and a scope in which it stands, or might.
type mention struct {
	scope int
	name  string
}

// fate is what becomes of a name by the nodes of one scope.
type fate struct{ bound, global, nonlocal bool }

// with is the fate, and what a node of that kind adds to it: a target, if it is an OName that is bound.
func (f fate) with(op int, target bool) fate {
	switch op {
	case api.OName:
		f.bound = f.bound || target
	case api.OParam, api.SDef, api.SClass, api.SHandler:
		f.bound = true
	case api.SGlobal:
		f.global = true
	case api.SNonlocal:
		f.nonlocal = true
	}
	return f
}

// names tells the names that stand by a node.
func names(n api.Node) iter.Seq[string] {
	return func(yield func(string) bool) {
		if !naming(n) {
			return
		}
		for name := range strings.SplitSeq(n.S, " ") {
			if !yield(name) {
				return
			}
		}
	}
}

// naming tells whether a node's S is a name that stands in its scope, or such names.
func naming(n api.Node) bool {
	switch n.Op {
	case api.OName, api.OParam, api.SDef, api.SClass, api.SGlobal, api.SNonlocal:
		return true
	case api.SHandler:
		return n.S != ""
	}
	return false
}

// around tells the scopes around one, the innermost first.
func (b *book) around(scope int) iter.Seq[int] {
	return func(yield func(int) bool) {
		for at := b.scopes[scope].Parent; at >= 0; at = b.scopes[at].Parent {
			if !yield(at) {
				return
			}
		}
	}
}

// owns tells whether the scope owns the name.
func (b *book) owns(m mention) bool {
	f := b.fates[m]
	return b.scopes[m.scope].Kind != api.ScopeModule && f.bound && !f.global && !f.nonlocal
}

// owner is the function that owns the name, as it is seen from the scope; below 0: none.
func (b *book) owner(m mention) int {
	for at := range b.around(m.scope) {
		if b.scopes[at].Kind == api.ScopeFunc && b.owns(mention{at, m.name}) {
			return at
		}
	}
	return -1
}

// freeOf is the owner of a name that is free by itself in its scope; below 0: it is not.
func (b *book) freeOf(m mention) int {
	if b.owns(m) || b.fates[m].global {
		return -1
	}
	return b.owner(m)
}
