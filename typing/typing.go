// Package typing infers the types of modules: see shared/doc/09-infer.md. Package
// infer tells them; package desugar needs what they come to besides, the
// dictionaries, or the types, for the preds of each name where it is used.
package typing

import (
	"teasel/api"
	"teasel/classes"
	"teasel/fix"
)

// Program is modules whose values have types.
type Program struct {
	Trees []api.Node // the result of fix.Mend

	// What Explain tells beside: what a name takes at its EVar, and what the Prelude's
	// >>= takes at a statement of an EDo, which may be an EVar itself; and what the
	// name of a DFun, or the dictionary of a DInst, takes. Nothing stands for none.
	// If there is too much of it, not all is told.
	Uses    map[*api.Node][]*Arg
	Binds   map[*api.Node][]*Arg
	Params  map[*api.Node]*Params
	TooMany bool

	takes  int // what names take
	given  int // how much of it
	insts  map[slot][]api.Need
	heads  map[string]struct{} // the constructors of types that have instances
	known  map[string]*scheme  // values and constructors, by their qualified names
	fields map[string]field
}

// Infer is modules with the types of their values, or what is wrong first in
// them.
func Infer(mods ...api.Node) (*Program, api.Diag) {
	return infer(nothing, mods...)
}

// Explain is what Infer is, with what names take: Dictionaries, or Types.
func Explain(takes int, mods ...api.Node) (*Program, api.Diag) {
	return infer(takes, mods...)
}

func infer(takes int, mods ...api.Node) (*Program, api.Diag) {
	insts, diag := classes.Insts(mods...)
	if diag.Number != api.OK {
		return nil, diag
	}
	trees, diag := fix.Mend(mods...)
	if diag.Number != api.OK {
		return nil, diag
	}
	p := newProgram(insts)
	p.Trees, p.takes = trees, takes
	if takes != nothing {
		p.Uses, p.Binds, p.Params = map[*api.Node][]*Arg{}, map[*api.Node][]*Arg{}, map[*api.Node]*Params{}
	}
	for i := range trees {
		tree := &trees[i]
		if wrong, errno := p.module(tree); errno != api.OK {
			return nil, api.Diag{File: tree.Name, Line: wrong.Line, Col: wrong.Col, Number: errno}
		}
	}
	return p, api.Diag{}
}

// Names is those of the DFuns at the top of a module, and of the variables of
// its DPats, in the order of the tree.
func Names(tree *api.Node) []string {
	return Bound(valuesOf(tree)...)
}

// Text is the scheme of a name at the top as it is written.
func (p *Program) Text(name string) string {
	return p.known[name].text()
}

// Action is what a name at the top takes as an IO of an Int, and whether its
// scheme can be instantiated to that, and all its preds hold then.
func (p *Program) Action(name string) ([]*Arg, bool) {
	s := newSolver(p, nil)
	g := &group{level: atTop}
	u := &use{}
	s.unify(s.instance(g, u, name), applied("Prim.IO", integer()))
	if s.failed {
		return nil, false
	}
	u.preds = s.copiesOf(u)
	m := newMaker(s, nil)
	dicts := m.args(u)
	switch {
	case m.lacking:
		return nil, false
	case p.takes == Types:
		return newTypeMaker(s, nil).args(u), true
	}
	return dicts, true
}
