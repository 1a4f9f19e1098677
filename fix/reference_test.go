package fix_test

import (
	"cmp"
	"slices"

	"teasel/api"
	"teasel/names"
)

// This is a second way to mend modules, word by word as the chapter says: it
// looks at every two operators of a sequence, and splits the sequence at the
// operator that binds least.

// A judge knows the modules as they are resolved.
type judge struct {
	mods []api.Node
}

// fixed is an EOp of a DFix.
type fixed struct {
	op, declaration api.Node
}

func fixedIn(m api.Node) []fixed {
	var all []fixed
	for _, d := range m.Subs[2].Subs {
		if d.Kind == api.DFix {
			for _, op := range d.Subs[0].Subs {
				all = append(all, fixed{op, d})
			}
		}
	}
	return all
}

// fixityOf is the associativity and the level of an operator.
func (j *judge) fixityOf(op api.Node) (string, int) {
	for _, m := range j.mods {
		for _, f := range fixedIn(m) {
			if f.op.Name == op.Name {
				return f.declaration.Name, f.declaration.N
			}
		}
	}
	if op.Name == "Prim.:" {
		return "infixr", 5
	}
	return "infixl", 9
}

func (j *judge) level(op api.Node) int {
	_, level := j.fixityOf(op)
	return level
}

func (j *judge) associativity(op api.Node) string {
	associativity, _ := j.fixityOf(op)
	return associativity
}

func operatorsOf(sequence []api.Node) []api.Node {
	var ops []api.Node
	for i := 1; i < len(sequence); i += 2 {
		ops = append(ops, sequence[i])
	}
	return ops
}

// clash says whether the operators at two places of a sequence do.
func (j *judge) clash(ops []api.Node, first, second int) bool {
	a, b := j.associativity(ops[first]), j.associativity(ops[second])
	level := j.level(ops[first])
	if level != j.level(ops[second]) {
		return false
	}
	if slices.ContainsFunc(ops[first+1:second], func(op api.Node) bool { return j.level(op) < level }) {
		return false
	}
	return !(a == "infixl" && b == "infixl") && !(a == "infixr" && b == "infixr")
}

// faults is all errors of a module.
func (j *judge) faults(m api.Node) []api.Diag {
	var all []api.Diag
	add := func(number api.Errno, op api.Node) {
		all = append(all, api.Diag{File: m.Name, Line: op.Line, Col: op.Col, Number: number})
	}
	declared := fixedIn(m)
	for i, f := range declared {
		if slices.ContainsFunc(declared[:i], func(other fixed) bool { return other.op.Name == f.op.Name }) {
			add(api.ErrFix, f.op)
		}
	}
	every([]api.Node{m}, func(n *api.Node) {
		if n.Kind != api.EOps && n.Kind != api.POps {
			return
		}
		ops := operatorsOf(n.Subs)
		for second := range ops {
			for first := range second {
				if j.clash(ops, first, second) {
					add(api.ErrMix, ops[second])
				}
			}
		}
	})
	slices.SortFunc(all, func(a, b api.Diag) int {
		return cmp.Or(cmp.Compare(a.Line, b.Line), cmp.Compare(a.Col, b.Col), cmp.Compare(a.Number, b.Number))
	})
	return all
}

// applications is the part of a sequence as applications.
func (j *judge) applications(kind int, part []api.Node) api.Node {
	if len(part) == 1 {
		return j.mend(part[0])
	}
	lowest := 10
	for _, op := range operatorsOf(part) {
		lowest = min(lowest, j.level(op))
	}
	var at int
	for i := 1; i < len(part); i += 2 {
		if j.level(part[i]) == lowest && (at == 0 || j.associativity(part[i]) == "infixl") {
			at = i
		}
	}
	o, l, r := part[at], j.applications(kind, part[:at]), j.applications(kind, part[at+1:])
	if kind == api.POps {
		return api.Node{Kind: api.PCon, Name: o.Name, Line: l.Line, Col: l.Col, Subs: []api.Node{l, r}}
	}
	inner := api.Node{Kind: api.EApp, Line: l.Line, Col: l.Col, Subs: []api.Node{j.named(o), l}}
	return api.Node{Kind: api.EApp, Line: l.Line, Col: l.Col, Subs: []api.Node{inner, r}}
}

func (j *judge) named(op api.Node) api.Node {
	kind := api.EVar
	if op.N == 1 {
		kind = api.ECon
	}
	return api.Node{Kind: kind, Name: op.Name, Line: op.Line, Col: op.Col}
}

// mend is a tree with all that stands in it replaced.
func (j *judge) mend(n api.Node) api.Node {
	switch n.Kind {
	case api.EOps, api.POps:
		return j.applications(n.Kind, n.Subs)
	case api.EOp:
		return j.named(n)
	}
	var subs []api.Node
	for _, sub := range n.Subs {
		if sub.Kind != api.DFix {
			subs = append(subs, j.mend(sub))
		}
	}
	n.Subs = subs
	return n
}

// answer is what Mend must answer.
func answer(mods []api.Node) ([]api.Node, api.Diag) {
	resolved, d := names.Resolve(mods...)
	if d.Number != api.OK {
		return nil, d
	}
	j := &judge{mods: resolved}
	for _, m := range resolved {
		if all := j.faults(m); len(all) > 0 {
			return nil, all[0]
		}
	}
	var out []api.Node
	for _, m := range resolved {
		out = append(out, j.mend(m))
	}
	return out, api.Diag{}
}
