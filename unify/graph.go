package unify

import (
	"maps"
	"slices"

	"teasel/api"
)

// graph is the nodes of some types, among which each TVar has only one.
type graph struct {
	constant     bool                // whether its TVars stand for themselves alone
	classes      map[string]*node    // by the Name of each TVar, the node that leads to its class
	applications map[*api.Type]*node // by where the Subs of a TApp are
}

func newGraph() *graph {
	return &graph{classes: map[string]*node{}, applications: map[*api.Type]*node{}}
}

func newConstantGraph() *graph {
	g := newGraph()
	g.constant = true
	return g
}

// step is a type whose node is to be made, or, once those of its Subs are, the
// node of a TApp that they are to be put into.
type step struct {
	of   *api.Type
	node *node
}

// add is the node of a type, or nil if it is not valid. Types may share their
// Subs, or be a part of themselves, so all Subs are looked at once; and they
// may be too deep for calls within calls, so what is left is kept on a stack.
func (g *graph) add(t api.Type) *node {
	var made []*node
	left := []step{{of: &t}}
	for len(left) > 0 {
		last := left[len(left)-1]
		left = left[:len(left)-1]
		switch {
		case last.node != nil:
			first := len(made) - 2
			last.node.parts = [2]*node{made[first], made[first+1]}
			last.node.count()
			made = append(made[:first], last.node)
		case isName(*last.of):
			made = append(made, g.name(*last.of))
		case isApplication(*last.of):
			subs := last.of.Subs
			n := g.applications[&subs[0]]
			switch {
			case n == nil:
				n = &node{kind: api.TApp}
				g.applications[&subs[0]] = n
				left = append(left, step{node: n}, step{of: &subs[1]}, step{of: &subs[0]})
			case n.nodes == 0: // it is a part of itself
				return nil
			default:
				made = append(made, n)
			}
		default:
			return nil
		}
	}
	return made[0]
}

func isName(t api.Type) bool {
	return (t.Kind == api.TVar || t.Kind == api.TCon) && t.Name != "" && len(t.Subs) == 0
}

// isApplication does not look at what the Subs are.
func isApplication(t api.Type) bool {
	return t.Kind == api.TApp && t.Name == "" && len(t.Subs) == 2
}

// name is the node of a TVar or TCon.
func (g *graph) name(t api.Type) *node {
	if t.Kind == api.TCon {
		return newName(t)
	}
	v := g.classes[t.Name]
	if v == nil {
		v = newName(t)
		v.open = !g.constant
		g.classes[t.Name] = v
	}
	return v
}

// subs is a sub for each TVar that has become another type, in increasing
// order of Names.
func (g *graph) subs() ([]api.Sub, api.Errno) {
	find := func(name string) *node { return g.classes[name].find() }
	names := slices.Sorted(maps.Keys(g.classes))
	for _, name := range names {
		if !find(name).measure() {
			return nil, api.ErrUnify
		}
	}
	names = slices.DeleteFunc(names, func(name string) bool { return find(name) == g.classes[name] })
	total := 0 // even if no Type is too big, all of them together may be more than a result can be
	for _, name := range names {
		nodes := find(name).nodes
		total += nodes
		if nodes > api.MaxType || total > mostNodes {
			return nil, api.ErrBig
		}
	}
	subs := make([]api.Sub, len(names))
	for i, name := range names {
		subs[i] = api.Sub{Name: name, Type: find(name).build()}
	}
	return subs, api.OK
}
