package core

import (
	"slices"

	"teasel/api"
)

// nodesOf is an expression and all that are in it, level by level, and how many
// levels there are. It stops when they are more than a program's may be.
func nodesOf(root *api.Expr) ([]*api.Expr, int) {
	nodes, levels := []*api.Expr{root}, 0
	for from := 0; from < len(nodes); levels++ {
		for to := len(nodes); from < to; from++ {
			e := nodes[from]
			for i := range children(e) {
				nodes = append(nodes, child(e, i))
			}
			if len(nodes) > 1+api.MaxNodes {
				return nodes, levels
			}
		}
	}
	return nodes, levels
}

// misshapen says whether an expression has an undefined number, not one Sub
// where there must be one, or a field that does not belong to it.
func misshapen(e *api.Expr) bool {
	left := *e // what does not belong to its Kind
	switch e.Kind {
	case api.Var:
		left.Name = ""
	case api.Lit:
		left.N = 0
	case api.Lam:
		left.Names = nil
	case api.App:
		left.Subs = nil
	case api.Let:
		left.Binds = nil
	case api.Case:
		left.Name, left.Alts = "", nil
	case api.Con:
		left.Name, left.Subs = "", nil
	case api.Prim:
		left.Op, left.Subs = 0, nil
	}
	switch e.Kind {
	case api.Lam, api.Let, api.Case:
		if len(e.Subs) != 1 {
			return true
		}
		left.Subs = nil
	case api.Prim:
		if e.Op < api.Add || e.Op > api.Raise {
			return true
		}
	}
	return e.Kind < api.Var || e.Kind > api.Prim || left.Name != "" || left.N != 0 || left.Op != 0 ||
		len(left.Names) > 0 || children(&left) > 0 || slices.ContainsFunc(e.Alts, misshapenAlt)
}

func misshapenAlt(a api.Alt) bool {
	switch a.Kind {
	case api.ConAlt:
		return a.N != 0
	case api.LitAlt:
		return a.Name != "" || len(a.Names) > 0
	case api.Default:
		return a.Name != "" || a.N != 0 || len(a.Names) > 0
	}
	return true
}

// bindsTwice says whether any of some expressions bind a name that is empty, or
// that is bound before.
func bindsTwice(whole *api.Expr, nodes []*api.Expr) bool {
	bound := map[string]struct{}{"": {}} // no binder may be empty, as if that were bound before
	twice := func(e *api.Expr) bool {
		for name := range ownBinders(e) {
			if _, found := bound[name]; found {
				return true
			}
			bound[name] = struct{}{}
		}
		return false
	}
	return twice(whole) || slices.ContainsFunc(nodes, twice)
}

func isMain(b api.Bind) bool { return b.Name == api.Main }
