package typing

import (
	"slices"

	"teasel/api"
)

// declarationsOf is the declarations of a module that are of some kinds.
func declarationsOf(tree *api.Node, kinds ...int) []*api.Node {
	var all []*api.Node
	for i := range tree.Subs[2].Subs {
		if d := &tree.Subs[2].Subs[i]; slices.Contains(kinds, d.Kind) {
			all = append(all, d)
		}
	}
	return all
}

// valuesOf is the declarations of a module whose types are inferred.
func valuesOf(tree *api.Node) []*api.Node {
	return declarationsOf(tree, api.DFun, api.DPat)
}

// Bound is the names that declarations bind, in the order of the tree. What is
// left is kept on a stack: patterns may be too deep for calls within calls.
func Bound(declarations ...*api.Node) []string {
	var names []string
	for _, d := range declarations {
		if d.Kind == api.DFun {
			names = append(names, d.Name)
			continue
		}
		left := []*api.Node{&d.Subs[0]}
		for len(left) > 0 {
			p := left[len(left)-1]
			left = left[:len(left)-1]
			if p.Kind == api.PVar || p.Kind == api.PAs {
				names = append(names, p.Name)
			}
			for i := len(p.Subs) - 1; i >= 0; i-- {
				left = append(left, &p.Subs[i])
			}
		}
	}
	return names
}

// localList is where the declarations are that a node has beside expressions.
func localList(n *api.Node) *api.Node {
	switch n.Kind {
	case api.ELet, api.SLet:
		return &n.Subs[0]
	case api.DRhs:
		return &n.Subs[1]
	}
	return nil
}
