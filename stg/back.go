package stg

import (
	"slices"

	"teasel/api"
)

// What follows makes expressions of Core in the places where they are to stand, as
// there may be very many calls within calls, which then take less room.

// coreBinds is binds of STG as those of Core.
func coreBinds(binds []api.SBind) []api.Bind {
	var made []api.Bind
	for i := range binds {
		made = append(made, api.Bind{Name: binds[i].Name})
		coreBind(&made[i].Expr, &binds[i])
	}
	return made
}

func coreBind(to *api.Expr, b *api.SBind) {
	to.Kind = api.Lit
	isClosure := b.Kind == api.SFun || b.Kind == api.SThunk
	switch {
	case b.Kind == api.SCell:
		to.Kind, to.Name, to.Subs = api.Con, b.Con, coreAtoms(b.Args)
	case !isClosure || len(b.Body) == 0:
	case b.Kind == api.SFun && len(b.Params) > 0:
		to.Kind, to.Names, to.Subs = api.Lam, slices.Clone(b.Params), make([]api.Expr, 1)
		coreExpr(&to.Subs[0], &b.Body[0])
	default:
		coreExpr(to, &b.Body[0])
	}
}

func coreExpr(to *api.Expr, e *api.Stg) {
	to.Kind = api.Lit
	switch e.Kind {
	case api.SAtom:
		if len(e.Args) > 0 {
			coreAtom(to, e.Args[0])
		}
	case api.SCall:
		coreCall(to, e)
	case api.SCon:
		to.Kind, to.Name, to.Subs = api.Con, e.Name, coreAtoms(e.Args)
	case api.SPrim:
		to.Kind, to.Op, to.Subs = api.Prim, e.Op, coreAtoms(e.Args)
	case api.SCase, api.SRec:
		if len(e.Subs) > 0 {
			coreAround(to, e)
		}
	}
}

// coreAround is for an SCase or an SRec with the expression in it.
func coreAround(to *api.Expr, e *api.Stg) {
	to.Subs = make([]api.Expr, 1)
	coreExpr(&to.Subs[0], &e.Subs[0])
	if e.Kind == api.SRec {
		to.Kind, to.Binds = api.Let, coreBinds(e.Binds)
		return
	}
	to.Kind, to.Name = api.Case, e.Name
	for i := range e.Alts {
		a := &e.Alts[i]
		to.Alts = append(to.Alts, api.Alt{Kind: a.Kind, Name: a.Name, N: a.N, Names: slices.Clone(a.Names)})
		coreExpr(&to.Alts[i].Body, &a.Body)
	}
}

func coreCall(to *api.Expr, e *api.Stg) {
	function := api.Expr{Kind: api.Var, Name: e.Name}
	if len(e.Args) == 0 {
		*to = function
		return
	}
	to.Kind, to.Subs = api.App, append([]api.Expr{function}, coreAtoms(e.Args)...)
}

func coreAtoms(atoms []api.Atom) []api.Expr {
	var made []api.Expr
	for i, a := range atoms {
		made = append(made, api.Expr{})
		coreAtom(&made[i], a)
	}
	return made
}

func coreAtom(to *api.Expr, a api.Atom) {
	if a.Name == "" {
		to.Kind, to.N = api.Lit, a.N
		return
	}
	to.Kind, to.Name = api.Var, a.Name
}
