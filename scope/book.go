package scope

import (
	"krait/api"
	"krait/tree"
)

// book is what one going over a right tree tells.
type book struct {
	t        api.Tree
	scopes   []api.Scope      // those that are made, without what hangs on other scopes
	lies     []int            // of each node: the scope in which it lies
	loops    []bool           // of each node: whether a loop of its scope goes on there
	targets  []bool           // of each node: whether it is bound, if it is a name
	mentions []mention        // each once, as they stand first
	fates    map[mention]fate // of each of these
}

// read goes over a right tree. A node comes ahead of its kids, so that it can say where they lie.
func read(t api.Tree) *book {
	b := &book{
		t:       t,
		lies:    make([]int, len(t)),
		loops:   make([]bool, len(t)),
		targets: make([]bool, len(t)),
		fates:   map[mention]fate{},
	}
	root := len(t) - 1
	b.lies[root] = -1
	for node := range tree.All(t, root) {
		b.place(node)
		b.aim(node)
		b.note(node)
	}
	return b
}

// place says where the kids of a node lie, and whether a loop goes on there.
func (b *book) place(node int) {
	n := b.t[node]
	made := b.open(node)
	for i, kid := range n.Kids {
		last := i == len(n.Kids)-1
		b.lies[kid] = b.kidLies(node, made, last)
		begun := last && (n.Op == api.SWhile || n.Op == api.SFor)
		b.loops[kid] = begun || b.loops[node] && b.lies[kid] == b.lies[node]
	}
}

// kidLies is the scope in which a kid of a node lies, where the node made that one.
func (b *book) kidLies(node, made int, last bool) int {
	around := b.lies[node]
	switch b.t[node].Op {
	case api.SModule, api.SDef, api.OLambda:
		return made
	case api.SClass:
		if last {
			return made
		}
	case api.OParam:
		// Its name lies in the function, what it has as default around that.
		return b.scopes[around].Parent
	}
	return around
}

// open makes a node's scope, and is its number; below 0: it makes none.
func (b *book) open(node int) int {
	kind, name := maker(b.t[node])
	if kind == 0 {
		return -1
	}
	b.scopes = append(b.scopes, api.Scope{Kind: kind, Name: name, Node: node, Parent: b.lies[node]})
	return len(b.scopes) - 1
}

// maker is of which kind a node makes a scope, and its name; 0: it makes none.
func maker(n api.Node) (kind int, name string) {
	switch n.Op {
	case api.SModule:
		return api.ScopeModule, ""
	case api.SDef:
		return api.ScopeFunc, n.S
	case api.OLambda:
		return api.ScopeFunc, "lambda"
	case api.SClass:
		return api.ScopeClass, n.S
	}
	return 0, ""
}

// aim marks what a statement binds.
func (b *book) aim(node int) {
	n := b.t[node]
	switch n.Op {
	case api.SAssign, api.SAug, api.SFor, api.SDel:
		aimed := n.Kids[0]
		b.targets[aimed] = true
		if b.t[aimed].Op == api.OTuple {
			for _, kid := range b.t[aimed].Kids {
				b.targets[kid] = true
			}
		}
	}
}

// note keeps what a node says of its scope, and of the names that stand by it.
func (b *book) note(node int) {
	n, scope := b.t[node], b.lies[node]
	switch n.Op {
	case api.OParam:
		b.scopes[scope].Params = append(b.scopes[scope].Params, n.S)
	case api.SYield:
		b.scopes[scope].Gen = true
	}
	for name := range names(n) {
		m := mention{scope, name}
		f, known := b.fates[m]
		if !known {
			b.mentions = append(b.mentions, m)
		}
		b.fates[m] = f.with(n.Op, b.targets[node])
	}
}
