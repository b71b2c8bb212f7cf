package scope_test

import (
	"slices"
	"strings"

	"krait/api"
	"krait/tree"
)

// model is the chapter's words, one by one, over a right tree: nothing is kept, all is looked up anew. A scope is the node that makes it.
type model struct {
	t     api.Tree
	order []int
	above []int
	lies  []int
}

func newModel(t api.Tree) *model {
	m := &model{t: t, above: make([]int, len(t)), lies: make([]int, len(t))}
	m.above[len(t)-1] = -1
	for i, n := range t {
		for _, kid := range n.Kids {
			m.above[kid] = i
		}
	}
	var walk func(n int)
	walk = func(n int) {
		m.order = append(m.order, n)
		m.lies[n] = m.in(n)
		for _, kid := range t[n].Kids {
			walk(kid)
		}
	}
	walk(len(t) - 1)
	return m
}

// in is the scope in which a node lies; -1 of the module.
func (m *model) in(node int) int {
	up := m.above[node]
	if up == -1 {
		return -1
	}
	last := m.t[up].Kids[len(m.t[up].Kids)-1] == node
	switch m.t[up].Op {
	case api.SModule:
		return up
	case api.SDef, api.OLambda:
		return up
	case api.SClass:
		if last {
			return up
		}
	case api.OParam:
		return m.in(m.above[up])
	}
	return m.in(up)
}

func (m *model) stands(node int) []string {
	n := m.t[node]
	switch n.Op {
	case api.OName, api.OParam, api.SDef, api.SClass:
		return []string{n.S}
	case api.SHandler:
		if n.S != "" {
			return []string{n.S}
		}
	case api.SGlobal, api.SNonlocal:
		return strings.Fields(n.S)
	}
	return nil
}

// binds tells whether a node binds the name that stands by it.
func (m *model) binds(node int) bool {
	switch m.t[node].Op {
	case api.OParam, api.SDef, api.SClass, api.SHandler:
		return true
	case api.OName:
		up := m.above[node]
		if m.t[up].Op == api.OTuple {
			upper := m.above[up]
			kind := m.t[upper].Op
			return (kind == api.SAssign || kind == api.SFor) && m.t[upper].Kids[0] == up
		}
		switch m.t[up].Op {
		case api.SAssign, api.SAug, api.SFor, api.SDel:
			return m.t[up].Kids[0] == node
		}
	}
	return false
}

// some tells whether there is a node in the scope by which the name stands, of which that holds.
func (m *model) some(scope int, name string, is func(node int) bool) bool {
	return slices.ContainsFunc(m.order, func(n int) bool {
		return m.lies[n] == scope && slices.Contains(m.stands(n), name) && is(n)
	})
}

func (m *model) declared(scope int, name string, op int) bool {
	return m.some(scope, name, func(n int) bool { return m.t[n].Op == op })
}

func (m *model) owns(scope int, name string) bool {
	return m.t[scope].Op != api.SModule && m.some(scope, name, m.binds) && !m.declared(scope, name, api.SGlobal) && !m.declared(scope, name, api.SNonlocal)
}

func (m *model) function(scope int) bool {
	return m.t[scope].Op == api.SDef || m.t[scope].Op == api.OLambda
}

func (m *model) owner(scope int, name string) int {
	for at := m.lies[scope]; at != -1; at = m.lies[at] {
		if m.function(at) && m.owns(at, name) {
			return at
		}
	}
	return -1
}

func (m *model) around(outer, inner int) bool {
	for at := m.lies[inner]; at != -1; at = m.lies[at] {
		if at == outer {
			return true
		}
	}
	return false
}

// free tells whether a name is free by itself in a scope.
func (m *model) free(scope int, name string) bool {
	stands := m.some(scope, name, func(int) bool { return true })
	return m.t[scope].Op != api.SModule && stands && !m.owns(scope, name) && !m.declared(scope, name, api.SGlobal) && m.owner(scope, name) != -1
}

// first are the names of all that stand somewhere and of which that holds, each once, in order.
func (m *model) first(is func(scope int, name string) bool) []string {
	var l []string
	for _, n := range m.order {
		for _, name := range m.stands(n) {
			if !slices.Contains(l, name) && is(m.lies[n], name) {
				l = append(l, name)
			}
		}
	}
	return l
}

// wrong is what is wrong with the node of that place in order.
func (m *model) wrong(place int) api.Errno {
	node := m.order[place]
	n, scope := m.t[node], m.lies[node]
	ahead := func(op int, name string) bool {
		return slices.ContainsFunc(m.order[:place], func(x int) bool {
			return m.t[x].Op == op && m.lies[x] == scope && slices.Contains(m.stands(x), name)
		})
	}
	switch n.Op {
	case api.OParam:
		if ahead(api.OParam, n.S) {
			return api.ErrTwice
		}
	case api.SGlobal, api.SNonlocal:
		for _, name := range m.stands(node) {
			if m.declared(scope, name, api.OParam) || ahead(api.SGlobal+api.SNonlocal-n.Op, name) {
				return api.ErrTwice
			}
		}
		for _, name := range m.stands(node) {
			if n.Op == api.SNonlocal && m.owner(scope, name) == -1 {
				return api.ErrName
			}
		}
	case api.SReturn, api.SYield:
		if !m.function(scope) {
			return api.ErrOutside
		}
	case api.SBreak, api.SContinue:
		if !m.looped(node) {
			return api.ErrOutside
		}
	}
	return api.OK
}

func (m *model) looped(node int) bool {
	for at := node; at != -1; at = m.above[at] {
		up := m.above[at]
		if up == -1 {
			break
		}
		loop := m.t[up].Op == api.SWhile || m.t[up].Op == api.SFor
		if loop && m.t[up].Kids[len(m.t[up].Kids)-1] == at && m.lies[up] == m.lies[node] {
			return true
		}
	}
	return false
}

// scope is what is told of one, where all are these.
func (m *model) scope(node int, all []int) api.Scope {
	n := m.t[node]
	s := api.Scope{Node: node, Name: n.S, Parent: slices.Index(all, m.lies[node])}
	s.Kind = map[int]int{api.SModule: api.ScopeModule, api.SDef: api.ScopeFunc, api.OLambda: api.ScopeFunc, api.SClass: api.ScopeClass}[n.Op]
	if n.Op == api.OLambda {
		s.Name = "lambda"
	}
	for _, kid := range n.Kids {
		if m.t[kid].Op == api.OParam {
			s.Params = append(s.Params, m.t[kid].S)
		}
	}
	here := m.first(func(in int, _ string) bool { return in == node })
	param := func(name string) bool { return slices.Contains(s.Params, name) }
	s.Locals = slices.Clone(s.Params)
	for _, name := range here {
		if m.owns(node, name) && !param(name) {
			s.Locals = append(s.Locals, name)
		}
		if !m.owns(node, name) && !m.free(node, name) {
			s.Globals = append(s.Globals, name)
		}
	}
	for _, name := range s.Locals {
		if m.function(node) && slices.ContainsFunc(all, func(in int) bool { return m.free(in, name) && m.owner(in, name) == node }) {
			s.Cells = append(s.Cells, name)
		}
	}
	s.Free = m.first(func(in int, name string) bool {
		return (in == node || m.around(node, in)) && m.free(in, name) && m.around(m.owner(in, name), node)
	})
	s.Gen = m.function(node) && slices.ContainsFunc(m.order, func(x int) bool { return m.t[x].Op == api.SYield && m.lies[x] == node })
	return s
}

// modelOf is what Of must tell.
func modelOf(t api.Tree) ([]api.Scope, int, api.Errno) {
	if !tree.Right(t) {
		return nil, 0, api.ErrArg
	}
	m := newModel(t)
	var all []int
	for place, node := range m.order {
		if e := m.wrong(place); e != api.OK {
			return nil, node, e
		}
		switch t[node].Op {
		case api.SModule, api.SDef, api.OLambda, api.SClass:
			all = append(all, node)
		}
	}
	var l []api.Scope
	for _, node := range all {
		l = append(l, m.scope(node, all))
	}
	return l, 0, api.OK
}

// modelHow is what How must tell.
func modelHow(l []api.Scope, scope int, name string) (int, int) {
	if scope < 0 || scope >= len(l) || l[scope].Kind < 1 || l[scope].Kind > 3 {
		return 0, 0
	}
	s := l[scope]
	place := func(row []string) int {
		for i, x := range row {
			if x == name {
				return i
			}
		}
		return -1
	}
	cell, local, free, global := place(s.Cells), place(s.Locals), place(s.Free), place(s.Globals)
	switch {
	case s.Kind == 1:
		return 4, 0
	case s.Kind == 2 && cell >= 0:
		return 2, cell
	case s.Kind == 2 && local >= 0:
		return 1, local
	case s.Kind == 3 && local >= 0:
		return 5, local
	case global >= 0 || free < 0:
		return 4, 0
	}
	return 3, len(s.Cells) + free
}
