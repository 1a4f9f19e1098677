package names

import "teasel/api"

// walk visits a node and what is below it, in the order of the tree. A visit
// answers the children that are to be visited too. Those that are left are
// kept on a stack: trees may be too deep for calls within calls.
func walk(root *api.Node, visit func(*api.Node) []api.Node) {
	left := []*api.Node{root}
	for len(left) > 0 {
		last := len(left) - 1
		n := left[last]
		left = left[:last]
		subs := visit(n)
		for i := len(subs) - 1; i >= 0; i-- {
			left = append(left, &subs[i])
		}
	}
}

// copyOf shares no memory with the tree.
func copyOf(n api.Node) api.Node {
	walk(&n, func(n *api.Node) []api.Node {
		n.Subs = append([]api.Node(nil), n.Subs...)
		return n.Subs
	})
	return n
}

// eachBound tells the variables of patterns, and the names that declarations
// bind, in the order of the tree.
func eachBound(part *api.Node, tell func(*api.Node)) {
	walk(part, func(n *api.Node) []api.Node {
		switch n.Kind {
		case api.DFun:
			tell(n)
			return nil
		case api.DPat:
			return n.Subs[:1]
		case api.PVar, api.PAs:
			tell(n)
		}
		return n.Subs
	})
}

// eachTypeVariable tells the TVars in a tree, in its order.
func eachTypeVariable(n *api.Node, tell func(api.Node)) {
	walk(n, func(n *api.Node) []api.Node {
		if n.Kind == api.TVar {
			tell(*n)
		}
		return n.Subs
	})
}

// numberLocals gives each local binding of a module its number. The number of
// a name is needed ahead of the node that binds it, in the guards ahead of a
// where: so all are counted first. Till the name is replaced, the number is
// kept as the N of that node, which has none of its own.
func numberLocals(declarations []api.Node) {
	count := 0
	number := func(n *api.Node) []api.Node {
		switch n.Kind {
		case api.DFun, api.PVar, api.PAs:
			count++
			n.N = count
		}
		return n.Subs
	}
	for i := range declarations {
		switch d := &declarations[i]; d.Kind {
		case api.DFun:
			walkAll(d.Subs, number)
		case api.DPat:
			walkAll(d.Subs[1:], number)
		case api.DInst:
			for _, method := range d.Subs[2].Subs {
				walkAll(method.Subs, number)
			}
		}
	}
}

func walkAll(nodes []api.Node, visit func(*api.Node) []api.Node) {
	for i := range nodes {
		walk(&nodes[i], visit)
	}
}
