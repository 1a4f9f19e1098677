package names

import "teasel/api"

// The sorts of entities: names of different sorts have nothing to do with one
// another.
const (
	valueSort = iota
	conSort
	typeSort
)

// key is the name of an entity in its module, or of one that is looked for.
type key struct {
	sort int
	name string
}

// entity is what a module binds for all others.
type entity struct {
	key
	module string
	kind   int    // that of the node that binds it
	owner  string // the constructor of a field, the class of a method
	parts  []key  // the components of a type or class, all in its module
}

// qualified is the name of an entity in the whole program.
func (e entity) qualified() string {
	return e.module + "." + e.name
}

// keyOf is the key of a node that binds an entity, or that refers to one.
func keyOf(n api.Node) key {
	switch n.Kind {
	case api.DCon, api.ECon, api.PCon, api.EMake, api.PMake:
		return key{sort: conSort, name: n.Name}
	case api.DData, api.DClass, api.DInst, api.DPred, api.TCon:
		return key{sort: typeSort, name: n.Name}
	case api.EOp:
		if n.N == 1 {
			return key{sort: conSort, name: n.Name}
		}
	}
	return key{sort: valueSort, name: n.Name}
}

// component is a constructor, field or method, and the Name of the node that
// it stands in.
type component struct {
	node  api.Node
	owner string
}

// components are those of a DData or DClass, in the order of the tree.
func components(n api.Node) []component {
	var all []component
	switch n.Kind {
	case api.DData:
		for _, con := range n.Subs[1].Subs {
			all = append(all, component{node: con, owner: n.Name})
			for _, part := range con.Subs[0].Subs {
				if part.Kind == api.DField {
					all = append(all, component{node: part, owner: con.Name})
				}
			}
		}
	case api.DClass:
		for _, method := range n.Subs[1].Subs {
			all = append(all, component{node: method, owner: n.Name})
		}
	}
	return all
}

// gather finds the own entities of a module, or the first one that it may not
// bind.
func (m *module) gather() api.Diag {
	m.own = map[key]entity{}
	var first api.Diag
	add := func(n api.Node, owner string, parts ...key) {
		e := entity{key: keyOf(n), module: m.name, kind: n.Kind, owner: owner, parts: parts}
		_, again := m.own[e.key]
		if (again || e.name == ":") && first.Number == api.OK {
			first = m.fault(api.ErrTwice, n)
		}
		m.own[e.key] = e
	}
	for _, d := range m.tree.Subs[2].Subs {
		switch d.Kind {
		case api.DData, api.DClass:
			all := components(d)
			add(d, "", keysOf(all)...)
			for _, c := range all {
				add(c.node, c.owner)
			}
		case api.DFun, api.DPat:
			eachBound(&d, func(n *api.Node) { add(*n, "") })
		}
	}
	return first
}

func keysOf(all []component) []key {
	var keys []key
	for _, c := range all {
		keys = append(keys, keyOf(c.node))
	}
	return keys
}
