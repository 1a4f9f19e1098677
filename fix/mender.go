package fix

import "teasel/api"

// mender replaces the sequences of one module.
type mender struct {
	known fixities // those of this module and of the ones ahead of it
	found faults
}

// module replaces the sequences of a tree that names.Resolve has answered,
// and removes its DFixes. A DFix may stand behind the use of its operators,
// so all are read first.
func (m *mender) module(tree *api.Node) {
	declarations := &tree.Subs[2]
	kept := make([]api.Node, 0, len(declarations.Subs))
	for _, d := range declarations.Subs {
		if d.Kind == api.DFix {
			m.known.declare(d, func(op api.Node) { m.found.add(api.ErrFix, op) })
			continue
		}
		kept = append(kept, d)
	}
	declarations.Subs = kept

	all := withOperators(declarations)
	for i := len(all) - 1; i >= 0; i-- {
		m.replace(all[i])
	}
}

// withOperators is the nodes that have operators, each ahead of those within
// it. What is left to look at is kept on a stack: trees may be too deep for
// calls within calls.
func withOperators(root *api.Node) []*api.Node {
	var all []*api.Node
	todo := []*api.Node{root}
	for len(todo) > 0 {
		n := todo[len(todo)-1]
		todo = todo[:len(todo)-1]
		switch n.Kind {
		case api.EOps, api.POps, api.ELeft, api.ERight:
			all = append(all, n)
		}
		for i := range n.Subs {
			todo = append(todo, &n.Subs[i])
		}
	}
	return all
}

// replace is for a node within which all has been replaced.
func (m *mender) replace(n *api.Node) {
	switch n.Kind {
	case api.EOps:
		*n = m.applications(n.Subs, applyFunction)
	case api.POps:
		*n = m.applications(n.Subs, applyPattern)
	case api.ELeft:
		n.Subs[1] = function(n.Subs[1])
	case api.ERight:
		n.Subs[0] = function(n.Subs[0])
	}
}
