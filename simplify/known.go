package simplify

import "teasel/api"

// known is the shapes of some names, beside those that were known before. A shape
// is a Lit or a Con of atoms; it stands nowhere, and its Vars are not counted.
type known struct {
	*known
	shapes map[*binder]*node
}

// shape is the latest one of a name, if there is one.
func (k *known) shape(of *binder) *node {
	for ; k != nil; k = k.known {
		if shape, found := k.shapes[of]; found {
			return shape
		}
	}
	return nil
}

// shapeOf is the shape that an expression is, if it is one.
func shapeOf(e *node) *node {
	switch e.kind {
	case api.Lit:
		return literal(e.n)
	case api.Con:
		shape := &node{kind: api.Con, name: e.name}
		for _, kid := range e.kids {
			field := settled(kid)
			if !field.isAtom() {
				return nil
			}
			shape.kids = append(shape.kids, &node{kind: field.kind, n: field.n, of: field.of})
		}
		return shape
	}
	return nil
}

// within is what is known in the body of an alternative besides.
func (k *known) within(scrutinee *node, h head) *known {
	shape := h.shape()
	if shape == nil {
		return k
	}
	k = &known{known: k, shapes: map[*binder]*node{h.as: shape}}
	if scrutinee.kind == api.Var {
		k.shapes[scrutinee.of] = shape
	}
	return k
}

// shape is what is known of a value for which this alternative is taken.
func (h head) shape() *node {
	switch h.kind {
	case api.LitAlt:
		return literal(h.n)
	case api.ConAlt:
		shape := &node{kind: api.Con, name: h.name}
		for _, name := range h.names {
			shape.kids = append(shape.kids, &node{kind: api.Var, of: name})
		}
		return shape
	}
	return nil
}

// matches says whether a value, or a shape, takes this alternative.
func (h head) matches(e *node) bool {
	switch h.kind {
	case api.LitAlt:
		return e.kind == api.Lit && e.n == h.n
	case api.ConAlt:
		return e.kind == api.Con && e.name == h.name
	}
	return true
}
