package typing

import "teasel/api"

// slot is what an instance is asked for by: a class, and a constructor with so
// many arguments.
type slot struct {
	class, con string
	arguments  int
}

// field is the place of a DField among those of its constructor.
type field struct {
	con string
	at  int
}

// newProgram knows the module Prim.
func newProgram(insts []api.Inst) *Program {
	p := &Program{insts: map[slot][]api.Need{}, heads: map[string]struct{}{}, known: map[string]*scheme{}, fields: map[string]field{}}
	for _, i := range insts {
		p.insts[slot{class: i.Class, con: i.Con, arguments: i.Args}] = i.Needs
		p.heads[i.Con] = struct{}{}
	}
	a, b, c := newVariable(atTop), newVariable(atTop), newVariable(atTop)
	p.addCon("Prim.()", newCon("Prim.()"))
	p.addCon("Prim.(,)", tupleOf(a, b), a, b)
	p.addCon("Prim.(,,)", tupleOf(a, b, c), a, b, c)
	p.addCon("Prim.:", listOf(a), a, listOf(a))
	p.addCon("Prim.False", truth())
	p.addCon("Prim.True", truth())
	p.addValues(function(integer(), integer(), integer()), "primAdd", "primSub", "primMul", "primQuot", "primRem")
	p.addValues(function(truth(), integer(), integer()), "primEq", "primLt", "primLe")
	action := func(t *term) *term { return applied("Prim.IO", t) }
	p.addValues(action(integer()), "primGet")
	p.addValues(function(action(newCon("Prim.()")), integer()), "primPut")
	p.addValues(function(action(a), a), "primReturn")
	p.addValues(function(action(b), action(a), function(action(b), a)), "primBind")
	p.addValues(function(b, a, b), "primSeq")
	p.addValues(a, "primRaise")
	return p
}

func (p *Program) addCon(name string, result *term, fields ...*term) {
	p.known[name] = &scheme{of: function(result, fields...), level: atTop, fields: len(fields)}
}

// addValues adds values of Prim that have the same type.
func (p *Program) addValues(t *term, names ...string) {
	for _, name := range names {
		p.known["Prim."+name] = &scheme{of: t, level: atTop}
	}
}

// declare adds what has a given scheme in a module.
func (p *Program) declare(tree *api.Node) {
	for i := range tree.Subs[2].Subs {
		switch d := &tree.Subs[2].Subs[i]; d.Kind {
		case api.DData:
			p.data(d)
		case api.DClass:
			p.class(d)
		}
	}
}

func (p *Program) data(d *api.Node) {
	variables := map[string]*term{}
	result := newCon(d.Name)
	for i := range d.Subs[0].Subs {
		result = newApplication(result, termOf(&d.Subs[0].Subs[i], variables))
	}
	for _, con := range d.Subs[1].Subs {
		var types []*term
		for i := range con.Subs[0].Subs {
			part := &con.Subs[0].Subs[i]
			if part.Kind != api.DField {
				types = append(types, termOf(part, variables))
				continue
			}
			t := termOf(&part.Subs[0], variables)
			types = append(types, t)
			p.fields[part.Name] = field{con: con.Name, at: i}
			p.known[part.Name] = &scheme{of: function(t, result), level: atTop}
		}
		p.addCon(con.Name, result, types...)
	}
}

func (p *Program) class(d *api.Node) {
	for i := range d.Subs[1].Subs {
		method := &d.Subs[1].Subs[i]
		variables := map[string]*term{}
		of := termOf(&d.Subs[0], variables)
		t := termOf(&method.Subs[0], variables)
		p.known[method.Name] = &scheme{of: t, level: atTop, preds: []pred{{class: d.Name, of: of}}, variables: []*term{of}}
	}
}

// module adds the names of a module with the schemes that are inferred, or
// answers the declaration at which an error is. All modules that it imports have
// been added.
func (p *Program) module(tree *api.Node) (*api.Node, api.Errno) {
	p.declare(tree)
	lists := listsOf(tree)
	for _, declarations := range lists[&tree.Subs[2]].groups {
		if errno := newSolver(p, lists).values(declarations...); errno != api.OK {
			return declarations[0], errno
		}
	}
	for _, inst := range declarationsOf(tree, api.DInst) {
		params := p.paramsOf(inst)
		for i := range inst.Subs[2].Subs {
			method := &inst.Subs[2].Subs[i]
			if errno := newSolver(p, lists).method(inst, method, params); errno != api.OK {
				return method, errno
			}
		}
	}
	return nil, api.OK
}

// paramsOf is what the dictionary of a DInst takes, which is of no group.
func (p *Program) paramsOf(inst *api.Node) *Params {
	of := termOf(&inst.Subs[1], map[string]*term{})
	count := len(of.arguments())
	params := &Params{Count: count, level: atTop - 1}
	if p.takes == Dictionaries {
		params.Count = len(p.insts[slot{class: inst.Name, con: of.head().name, arguments: count}])
	}
	if p.takes != nothing && params.Count > 0 {
		p.Params[inst] = params
	}
	return params
}
