package simplify

import (
	"slices"
	"strconv"

	"teasel/api"
	"teasel/core"
	"teasel/occur"
)

// let is a Let that is simplified.
func (s *simplifier) let(e *api.Expr, k *known) *node {
	at := &scope{}
	made := &node{kind: api.Let, names: s.bindsOf(e.Binds, at)}
	inside := &known{known: k, shapes: map[*binder]*node{}}
	for i := range e.Binds {
		at.part = i
		value := s.simple(&e.Binds[i].Expr, k)
		if shape := shapeOf(value); shape != nil {
			inside.shapes[made.names[i]] = shape
		}
		made.take(value)
	}
	at.part = len(e.Binds)
	made.take(s.simple(&e.Subs[0], inside))
	return s.arranged(made)
}

func (s *simplifier) bindsOf(binds []api.Bind, home *scope) []*binder {
	var names []*binder
	for i := range binds {
		b := s.bind(binds[i].Name)
		b.home = home
		names = append(names, b)
	}
	return names
}

// arranged is a Let, by which of its binds are needed, and what by.
func (s *simplifier) arranged(e *node) *node {
	values, body := e.kids[:len(e.names)], e.kids[len(e.names)]
	binds, needs := outline(e.names)
	live := occur.Live(needs, binds...)
	if len(live) < len(values) {
		for i, value := range values {
			if _, found := slices.BinarySearch(live, i); !found {
				forget(value)
			}
		}
		if len(live) == 0 {
			return body
		}
		return e.only(live, body)
	}
	if groups := core.Groups(binds...); len(groups) > 1 {
		for _, group := range slices.Backward(groups) {
			body = e.only(group, body)
		}
		return body
	}
	if len(values) > 1 {
		return e
	}
	return s.single(e, len(binds[0].Expr.Subs) > 0)
}

// only is some binds of a Let around a body.
func (e *node) only(binds []int, body *node) *node {
	some := &node{kind: api.Let}
	for _, i := range binds {
		some.names = append(some.names, e.names[i])
		some.take(e.kids[i])
	}
	return some.take(body)
}

// single is a Let of one bind, which its body needs, and may itself.
func (s *simplifier) single(e *node, recursive bool) *node {
	name, value, body := e.names[0], e.kids[0], e.kids[1]
	switch {
	case recursive:
	case value.isAtom():
		forget(value)
		name.replace(value)
		return body
	case name.times == 1 && !s.vars[name.sum].isInLam(body):
		value.around = s.vars[name.sum]
		name.replace(value)
		return body
	}
	if value.kind != api.Let {
		return e
	}
	last := len(value.kids) - 1
	if inner := settled(value.kids[last]); inner.kind == api.Lit || inner.kind == api.Lam || inner.kind == api.Con {
		e.put(0, inner)
		value.put(last, e)
		return value
	}
	return e
}

// outline is the binds of a Let, and its body, with nothing in them but which of the
// binds they use, which is all that liveness and groups hang on. The names are
// numbers, as those of a program may be long.
func outline(names []*binder) ([]api.Bind, api.Expr) {
	parts := make([]api.Expr, len(names)+1)
	for i := range parts {
		parts[i].Kind = api.Con
	}
	binds := make([]api.Bind, len(names))
	for i, b := range names {
		binds[i].Name = strconv.Itoa(i)
		for _, u := range b.uses {
			if u.times > 0 {
				user := &parts[u.part]
				user.Subs = append(user.Subs, api.Expr{Kind: api.Var, Name: binds[i].Name})
			}
		}
	}
	for i := range binds {
		binds[i].Expr = parts[i]
	}
	return binds, parts[len(names)]
}
