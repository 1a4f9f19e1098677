package core

import (
	"slices"

	"teasel/api"
)

const mostFamily = 1000

// constructors is those of a program, by their names.
type constructors map[string]api.Cons

func constructorsOf(p api.Program) constructors {
	cons := constructors{}
	for _, c := range p.Cons {
		cons[c.Name] = c
	}
	return cons
}

// isWrong says whether a constructor may not be, whatever others there are.
func isWrong(c api.Cons) bool {
	return c.Name == "" || c.Arity < 0 || c.Arity > api.MaxArity ||
		c.Family < 1 || c.Family > mostFamily || c.Tag < 0 || c.Tag >= c.Family
}

// lackOwn says whether one of those is missing that Core itself uses.
func (cons constructors) lackOwn() bool {
	for _, c := range []api.Cons{
		{Name: api.False, Arity: 0, Tag: 0, Family: 2},
		{Name: api.True, Arity: 0, Tag: 1, Family: 2},
		{Name: api.Unit, Arity: 0, Tag: 0, Family: 1},
		{Name: api.Box, Arity: 1, Tag: 0, Family: 1},
	} {
		if cons[c.Name] != c {
			return true
		}
	}
	return false
}

func (cons constructors) has(name string, fields int) bool {
	c, found := cons[name]
	return found && c.Arity == fields
}

// misfit says whether an expression has too few or too many names, children or
// fields.
func (cons constructors) misfit(e *api.Expr) bool {
	switch e.Kind {
	case api.Lam:
		return len(e.Names) == 0
	case api.App:
		return len(e.Subs) < 2
	case api.Let:
		return len(e.Binds) == 0
	case api.Case:
		return slices.ContainsFunc(e.Alts, cons.misfitAlt)
	case api.Con:
		return !cons.has(e.Name, len(e.Subs))
	case api.Prim:
		return len(e.Subs) != arguments(e.Op)
	}
	return false
}

func (cons constructors) misfitAlt(a api.Alt) bool {
	return a.Kind == api.ConAlt && !cons.has(a.Name, len(a.Names))
}

// arguments is how many a Prim has.
func arguments(op int) int {
	switch op {
	case api.Get, api.Raise:
		return 0
	case api.Put:
		return 1
	}
	return 2
}

// clash says whether a Case has no alternatives, or some that may not stand
// together in this order.
func (cons constructors) clash(e *api.Expr) bool {
	if e.Kind != api.Case {
		return false
	}
	if len(e.Alts) == 0 {
		return true
	}
	others := e.Alts // than a Default that is the last one
	if last := len(others) - 1; others[last].Kind == api.Default {
		others = others[:last]
	}
	names, numbers, families := map[string]struct{}{}, map[int]struct{}{}, map[int]struct{}{}
	for _, a := range others {
		switch a.Kind {
		case api.ConAlt:
			names[a.Name], families[cons[a.Name].Family] = struct{}{}, struct{}{}
		case api.LitAlt:
			numbers[a.N] = struct{}{}
		}
	}
	// They are fewer if two are the same, or if one is a Default.
	return len(names)+len(numbers) < len(others) || len(names) > 0 && len(numbers) > 0 || len(families) > 1
}
