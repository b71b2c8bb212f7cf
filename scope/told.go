package scope

import "krait/api"

// told are the scopes, with all of their names, of a tree in which nothing is wrong.
func (b *book) told() []api.Scope {
	cells, free := map[mention]bool{}, map[mention]bool{}
	for _, m := range b.mentions {
		s := &b.scopes[m.scope]
		owner := b.freeOf(m)
		switch {
		case b.owns(m):
			// Parameters stand ahead of all else that lies in their function, so that they come first.
			s.Locals = append(s.Locals, m.name)
		case owner >= 0:
			cells[mention{owner, m.name}] = true
			b.carry(m, owner, free)
		default:
			s.Globals = append(s.Globals, m.name)
		}
	}
	for i := range b.scopes {
		s := &b.scopes[i]
		for _, name := range s.Locals {
			if cells[mention{i, name}] {
				s.Cells = append(s.Cells, name)
			}
		}
	}
	return b.scopes
}

// carry makes a name free in its scope, and in those between that one and its owner.
func (b *book) carry(m mention, owner int, free map[mention]bool) {
	for at := m.scope; at != owner; at = b.scopes[at].Parent {
		there := mention{at, m.name}
		if free[there] {
			// No function between owns the name, so that it was carried on from here to the same owner.
			return
		}
		free[there] = true
		b.scopes[at].Free = append(b.scopes[at].Free, m.name)
	}
}
