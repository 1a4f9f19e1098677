package simplify

import (
	"slices"

	"teasel/api"
	"teasel/core"
	"teasel/occur"
)

// passed is a program that Lint accepts, behind one pass.
func passed(p api.Program) api.Program {
	s := &simplifier{binders: map[string]*binder{}, next: core.Next(p)}
	top := s.program(p)
	binds, needs := outline(top.names)
	top = top.only(occur.Live(needs, binds...), top.kids[len(binds)])
	top.rename()
	w := &writer{room: api.MaxNodes}
	made := api.Program{Cons: slices.Clone(p.Cons)}
	for i, name := range top.names {
		made.Binds = append(made.Binds, api.Bind{Name: name.name, Expr: w.expr(top.kids[i], 1)})
	}
	if w.room < 0 || core.Lint(made) != api.OK {
		return copied(p)
	}
	return made
}

// program is the Binds of a program, as a Let of which Main.main is the body.
func (s *simplifier) program(p api.Program) *node {
	at := &scope{}
	top := &node{kind: api.Let, names: s.bindsOf(p.Binds, at)}
	k := &known{shapes: map[*binder]*node{}}
	for i := range p.Binds {
		if shape := s.shape(&p.Binds[i].Expr); shape != nil {
			k.shapes[top.names[i]] = shape
		}
	}
	for i := range p.Binds {
		at.part = i
		top.take(s.simple(&p.Binds[i].Expr, k))
	}
	at.part = len(p.Binds)
	return top.take(s.variable(s.binders[api.Main]))
}

// shape is the shape that the expression of a Bind is before it is simplified, if it
// is one.
func (s *simplifier) shape(e *api.Expr) *node {
	made := &node{kind: e.Kind, n: e.N, name: e.Name}
	for i := range e.Subs {
		sub := &e.Subs[i]
		made.kids = append(made.kids, &node{kind: sub.Kind, n: sub.N, of: s.binders[sub.Name]})
	}
	return shapeOf(made)
}

// rename removes the first Bind, other than Main.main, that is a number or another
// name, and puts that in the place of its name.
func (e *node) rename() {
	for i, name := range e.names {
		value := settled(e.kids[i])
		if name.name != api.Main && value.isAtom() && value.of != name {
			name.replace(value)
			e.names = slices.Delete(e.names, i, i+1)
			e.kids = slices.Delete(e.kids, i, i+1)
			return
		}
	}
}
