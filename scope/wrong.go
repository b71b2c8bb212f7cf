package scope

import (
	"krait/api"
	"krait/tree"
)

// check is what is wrong with a node.
type check func(node int) api.Errno

// wrong is the first node, in order, with which something is wrong, and what.
func (b *book) wrong() (int, api.Errno) {
	checks := b.checks()
	for node := range tree.All(b.t, len(b.t)-1) {
		look, ok := checks[b.t[node].Op]
		if !ok {
			continue
		}
		if e := look(node); e != api.OK {
			return node, e
		}
	}
	return 0, api.OK
}

// checks are what nodes of each kind are held to. They remember the nodes ahead, so that they are good for going over the tree once.
func (b *book) checks() map[int]check {
	once := b.once()
	inFunc := func(node int) api.Errno {
		if b.scopes[b.lies[node]].Kind != api.ScopeFunc {
			return api.ErrOutside
		}
		return api.OK
	}
	inLoop := func(node int) api.Errno {
		if !b.loops[node] {
			return api.ErrOutside
		}
		return api.OK
	}
	nonlocal := func(node int) api.Errno {
		if e := once(node); e != api.OK {
			return e
		}
		return b.owned(node)
	}
	return map[int]check{
		api.OParam:    once,
		api.SGlobal:   once,
		api.SNonlocal: nonlocal,
		api.SReturn:   inFunc,
		api.SYield:    inFunc,
		api.SBreak:    inLoop,
		api.SContinue: inLoop,
	}
}

// once holds that a name is a parameter of its scope once, and then not declared there, and is declared in one way alone.
func (b *book) once() check {
	said := map[mention]int{}
	return func(node int) api.Errno {
		op := b.t[node].Op
		for name := range names(b.t[node]) {
			m := mention{b.lies[node], name}
			was, known := said[m]
			if known && (was != op || was == api.OParam) {
				return api.ErrTwice
			}
			said[m] = op
		}
		return api.OK
	}
}

// owned holds that each name of a node has an owner, as it is seen from there.
func (b *book) owned(node int) api.Errno {
	for name := range names(b.t[node]) {
		if b.owner(mention{b.lies[node], name}) < 0 {
			return api.ErrName
		}
	}
	return api.OK
}
