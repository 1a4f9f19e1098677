package names

import (
	"teasel/api"
	"teasel/parse"
)

const (
	primName    = "Prim"
	preludeName = "Prelude"
	bindName    = ">>=" // what an EDo needs of the Prelude
)

// program is all modules.
type program struct {
	given  []*module          // those with a tree, as they were handed in
	byName map[string]*module // these, and Prim
}

// module is what is known of one module.
type module struct {
	name     string
	tree     api.Node
	own      map[key]entity
	exported map[key]entity

	users  []*module // those that import it
	waits  int       // how many of its imports have no place in the order yet
	placed bool      // whether it has one itself
}

// newProgram is the program of trees that are Right and have names of their
// own.
func newProgram(mods ...api.Node) (*program, api.Diag) {
	for _, tree := range mods {
		if !parse.Right(tree) {
			return nil, api.Diag{Number: api.ErrTree}
		}
	}
	p := &program{byName: map[string]*module{primName: prim()}}
	for _, tree := range mods {
		m := &module{name: tree.Name, tree: tree}
		if p.byName[m.name] != nil {
			return nil, m.fault(api.ErrModule, tree)
		}
		p.byName[m.name] = m
		p.given = append(p.given, m)
	}
	return p, api.Diag{}
}

// fault is an error of a module at one of its nodes.
func (m *module) fault(number api.Errno, at api.Node) api.Diag {
	return api.Diag{File: m.name, Line: at.Line, Col: at.Col, Number: number}
}

// imports is the DImports of a module.
func (m *module) imports() []api.Node {
	return m.tree.Subs[1].Subs
}

// importsPrelude says whether a module imports the Prelude without a DImport.
func (p *program) importsPrelude(m *module) bool {
	if p.byName[preludeName] == nil || m.name == preludeName {
		return false
	}
	for _, d := range m.imports() {
		if d.Name == preludeName {
			return false
		}
	}
	return true
}

// hasBind says whether the program has the value that an EDo needs. All other
// modules come behind the Prelude, so that its own entities are known by then.
func (p *program) hasBind() bool {
	prelude := p.byName[preludeName]
	if prelude == nil {
		return false
	}
	_, found := prelude.own[key{sort: valueSort, name: bindName}]
	return found
}
