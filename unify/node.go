package unify

import "teasel/api"

// node is a type among others that it may turn out to be the same as.
type node struct {
	kind          int
	name          string
	open          bool     // whether it may become any type
	parts         [2]*node // of a TApp
	same          *node    // set once it has turned out to be that type
	nodes, levels int      // how great and how deep it is, once that has been counted
	progress      int      // of measure
}

func newName(t api.Type) *node {
	return &node{kind: t.Kind, name: t.Name, nodes: 1, levels: 1}
}

// Bounds of the types that are written or built. Those beyond them are greater
// than a result may be (a node takes 48 bytes) or deeper than arguments within
// each other can be; calls within calls will do for all others.
const (
	mostNodes  = (1<<31 - 1) / 48
	mostLevels = 1 << 18
)

func (n *node) vast() bool {
	return n.nodes > mostNodes || n.levels > mostLevels
}

// count is for a TApp whose parts are counted.
func (n *node) count() {
	function, argument := n.parts[0].find(), n.parts[1].find()
	n.nodes = min(1+function.nodes+argument.nodes, mostNodes+1)
	n.levels = 1 + max(function.levels, argument.levels)
}

// find is the node that stands for all that are known to be the same as n. It
// shortens the way for the next time.
func (n *node) find() *node {
	for n.same != nil {
		if n.same.same != nil {
			n.same = n.same.same
		}
		n = n.same
	}
	return n
}

// join makes two nodes the same, if that is possible; of TVars the one with
// the smallest Name stays. TApps become the same ahead of their parts, so that
// no two are compared again, and this ends even if a TVar comes to contain
// itself, which measure finds out.
func join(a, b *node) bool {
	left := [][2]*node{{a, b}}
	for len(left) > 0 {
		last := left[len(left)-1]
		left = left[:len(left)-1]
		x, y := last[0].find(), last[1].find()
		switch {
		case x == y:
		case x.open && (!y.open || y.name < x.name):
			x.same = y
		case y.open:
			y.same = x
		case x.kind != y.kind || x.name != y.name:
			return false
		case x.kind == api.TApp:
			x.same = y
			left = append(left, [2]*node{x.parts[0], y.parts[0]}, [2]*node{x.parts[1], y.parts[1]})
		}
	}
	return true
}

// How far measure has come with a node.
const (
	notBegun = iota
	begun
	counted
)

// measure counts a node, and all those in it, as what they have become. It is
// false if the node has come to contain itself.
func (n *node) measure() bool {
	path := []*node{n.find()}
	for len(path) > 0 {
		last := path[len(path)-1]
		switch {
		case last.progress == counted || last.kind != api.TApp:
			path = path[:len(path)-1]
		case last.progress == begun:
			last.count()
			last.progress = counted
		default:
			last.progress = begun
			for _, part := range last.parts {
				part = part.find()
				if part.progress == begun {
					return false
				}
				path = append(path, part)
			}
		}
	}
	return true
}

// build is the type of a node that is not vast.
func (n *node) build() api.Type {
	n = n.find()
	if n.kind != api.TApp {
		return api.Type{Kind: n.kind, Name: n.name}
	}
	subs := make([]api.Type, len(n.parts))
	for i, part := range n.parts {
		subs[i] = part.build()
	}
	return api.Type{Kind: api.TApp, Subs: subs}
}
