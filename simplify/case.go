package simplify

import (
	"slices"

	"teasel/api"
)

// caseOf is a Case that is simplified.
func (s *simplifier) caseOf(e *api.Expr, k *known) *node {
	made := (&node{kind: api.Case, name: e.Name}).take(s.simple(&e.Subs[0], k))
	for i := range e.Alts {
		a := &e.Alts[i]
		h := head{kind: a.Kind, name: a.Name, n: a.N, names: s.bindAll(a.Names), as: s.bind(e.Name)}
		made.heads = append(made.heads, h)
		made.take(s.simple(&a.Body, k.within(made.kids[0], h)))
	}
	return s.decided(made, k)
}

// decided is a Case by what its scrutinee is.
func (s *simplifier) decided(e *node, k *known) *node {
	of := e.kids[0]
	switch {
	case of.kind == api.Var:
		return viewed(e, k.shape(of.of))
	case of.kind == api.Lit || of.kind == api.Con || of.kind == api.Lam:
		return s.taken(e)
	case of.isRaise():
		forget(e.kids[1:]...)
		return of
	case of.isChoice():
		return s.handedOver(e)
	}
	return inward(e)
}

// choose is the alternative of a Case that matches a value, or a shape; all others
// stand nowhere any more. It is false if there is none.
func (e *node) choose(value *node) (h head, body *node, found bool) {
	at := slices.IndexFunc(e.heads, func(h head) bool { return h.matches(value) })
	if at < 0 {
		return
	}
	bodies := e.kids[1:]
	forget(bodies[:at]...)
	forget(bodies[at+1:]...)
	return e.heads[at], bodies[at], true
}

// taken is a Case of a Lit, a Con or a Lam.
func (s *simplifier) taken(e *node) *node {
	value := e.kids[0]
	h, body, found := e.choose(value)
	if !found {
		return e
	}
	if h.kind != api.ConAlt {
		return let([]*binder{h.as}, []*node{value}, body)
	}
	again := &node{kind: api.Con, name: value.name}
	for _, name := range h.names {
		again.take(s.variable(name))
	}
	return nested(append(h.names, h.as), append(value.kids, again), body)
}

// viewed is a Case of a Var, of which a shape may be known.
func viewed(e, shape *node) *node {
	if shape == nil {
		return e
	}
	h, body, found := e.choose(shape)
	if !found {
		return e
	}
	for i, name := range h.names {
		name.replace(shape.kids[i])
	}
	of := e.kids[0]
	forget(of)
	h.as.replace(of)
	return body
}
