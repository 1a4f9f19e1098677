package parse

import (
	"slices"

	"teasel/api"
)

// declarations is a list in which the equations that are clauses are parts of
// DFuns. What else is in the list stays as it is.
func (s *settler) declarations(list []api.Node) []api.Node {
	var out []api.Node
	for _, d := range list {
		fun, isClause := functionOf(d)
		if !isClause {
			out = append(out, d)
			continue
		}
		last := len(out) - 1
		if last < 0 || !isContinued(out[last], fun) {
			out = append(out, fun)
			continue
		}
		clause := fun.Subs[0]
		if patternCount(clause) != patternCount(out[last].Subs[0]) {
			s.wrong(clause)
		}
		out[last].Subs = append(out[last].Subs, clause)
	}
	return out
}

// isContinued says whether a declaration is a DFun to which the clause of the
// next one belongs.
func isContinued(d, next api.Node) bool {
	return d.Kind == api.DFun && d.Name == next.Name &&
		patternCount(d.Subs[0]) > 0 && patternCount(next.Subs[0]) > 0
}

func patternCount(clause api.Node) int {
	return len(clause.Subs[0].Subs)
}

// functionOf is the DFun of a declaration, if that is an equation that is a
// clause.
func functionOf(d api.Node) (api.Node, bool) {
	if d.Kind != api.DPat {
		return api.Node{}, false
	}
	name, patterns, ok := leftSide(d.Subs[0])
	if !ok {
		return api.Node{}, false
	}
	list := api.Node{Kind: api.List, Subs: patterns}
	clause := api.Node{Kind: api.DClause, Line: d.Line, Col: d.Col, Subs: []api.Node{list, d.Subs[1]}}
	return api.Node{Kind: api.DFun, Name: name, Line: d.Line, Col: d.Col, Subs: []api.Node{clause}}, true
}

// leftSide is the name and the patterns of a left side, if it is a clause's.
func leftSide(n api.Node) (string, []api.Node, bool) {
	if n.Kind == api.EOps {
		i := slices.IndexFunc(n.Subs, isFunctionOperator)
		if i < 0 {
			return "", nil, false
		}
		return n.Subs[i].Name, []api.Node{sequenceOf(n.Subs[:i]), sequenceOf(n.Subs[i+1:])}, true
	}
	head, arguments := spine(n)
	if head.Kind != api.EVar {
		return "", nil, false
	}
	return head.Name, arguments, true
}

func isFunctionOperator(n api.Node) bool {
	return n.Kind == api.EOp && n.N == 0
}

// sequenceOf is a part of an EOps, in memory of its own.
func sequenceOf(subs []api.Node) api.Node {
	if len(subs) == 1 {
		return subs[0]
	}
	return api.Node{Kind: api.EOps, Line: subs[0].Line, Col: subs[0].Col, Subs: slices.Clone(subs)}
}

// spine is what EApps begin with, and their arguments.
func spine(n api.Node) (api.Node, []api.Node) {
	var arguments []api.Node
	for n.Kind == api.EApp {
		arguments = append(arguments, n.Subs[1])
		n = n.Subs[0]
	}
	slices.Reverse(arguments)
	return n, arguments
}
