package stg_test

import (
	"slices"
	"strconv"

	"teasel/api"
	"teasel/core"
)

// A second way, word by word as the chapter says it.

// occurrences is, for each place where a name occurs free, whether only straight
// ways lead there.
func occurrences(e api.Expr, name string) []bool {
	var all []bool
	take := func(e api.Expr, straight bool) {
		for _, is := range occurrences(e, name) {
			all = append(all, is && straight)
		}
	}
	switch e.Kind {
	case api.Var:
		if e.Name == name {
			all = append(all, true)
		}
	case api.Lam:
		if !slices.Contains(e.Names, name) {
			take(e.Subs[0], false)
		}
	case api.App, api.Con:
		for i, s := range e.Subs {
			take(s, e.Kind == api.App && i == 0)
		}
	case api.Prim:
		for _, s := range e.Subs {
			take(s, true)
		}
	case api.Let:
		if slices.ContainsFunc(e.Binds, func(b api.Bind) bool { return b.Name == name }) {
			break
		}
		for _, b := range e.Binds {
			take(b.Expr, false)
		}
		take(e.Subs[0], true)
	case api.Case:
		take(e.Subs[0], true)
		for _, a := range e.Alts {
			if e.Name != name && !slices.Contains(a.Names, name) {
				take(a.Body, true)
			}
		}
	}
	return all
}

func refStraight(e api.Expr, name string) bool {
	all := occurrences(e, name)
	return len(all) == 1 && all[0]
}

func refOf(p api.Program) api.SProgram {
	r := &ref{next: core.Next(p)}
	for _, b := range p.Binds {
		r.top = append(r.top, b.Name)
	}
	q := api.SProgram{Cons: p.Cons}
	for _, b := range p.Binds {
		q.Binds = append(q.Binds, r.binds(b.Name, b.Expr, true)...)
	}
	return q
}

type ref struct {
	next int
	top  []string
}

func (r *ref) fresh() string {
	r.next++
	return "t#" + strconv.Itoa(r.next-1)
}

func isAtom(e api.Expr) bool { return e.Kind == api.Var || e.Kind == api.Lit }

func refAtom(e api.Expr) api.Atom { return api.Atom{Name: e.Name, N: e.N} }

func rec(binds []api.SBind, body api.Stg) api.Stg {
	return api.Stg{Kind: api.SRec, Binds: binds, Subs: []api.Stg{body}}
}

func refCase(of api.Stg, name string, body api.Stg) api.Stg {
	return api.Stg{Kind: api.SCase, Name: name, Subs: []api.Stg{of}, Alts: []api.SAlt{{Kind: api.Default, Body: body}}}
}

func (r *ref) expr(e api.Expr) api.Stg {
	switch e.Kind {
	case api.Lam:
		t := r.fresh()
		return rec(r.binds(t, e, true), api.Stg{Kind: api.SAtom, Args: []api.Atom{{Name: t}}})
	case api.Con:
		return r.args(api.Stg{Kind: api.SCon, Name: e.Name}, e.Subs)
	case api.App:
		if e.Subs[0].Kind == api.Var {
			return r.args(api.Stg{Kind: api.SCall, Name: e.Subs[0].Name}, e.Subs[1:])
		}
		t := r.fresh()
		f := r.expr(e.Subs[0])
		return refCase(f, t, r.args(api.Stg{Kind: api.SCall, Name: t}, e.Subs[1:]))
	case api.Prim:
		return r.prim(api.Stg{Kind: api.SPrim, Op: e.Op}, e.Subs)
	case api.Let:
		var binds []api.SBind
		for _, b := range e.Binds {
			update := len(e.Binds) > 1 || slices.Contains(core.Free(b.Expr), b.Name) || !refStraight(e.Subs[0], b.Name)
			binds = append(binds, r.binds(b.Name, b.Expr, update)...)
		}
		return rec(binds, r.expr(e.Subs[0]))
	case api.Case:
		made := api.Stg{Kind: api.SCase, Name: e.Name, Subs: []api.Stg{r.expr(e.Subs[0])}}
		for _, a := range e.Alts {
			made.Alts = append(made.Alts, api.SAlt{Kind: a.Kind, Name: a.Name, N: a.N, Names: a.Names, Body: r.expr(a.Body)})
		}
		return made
	}
	return api.Stg{Kind: api.SAtom, Args: []api.Atom{refAtom(e)}}
}

// args puts those of arguments that are left around what follows.
func (r *ref) args(inner api.Stg, left []api.Expr) api.Stg {
	if len(left) == 0 {
		return inner
	}
	if isAtom(left[0]) {
		inner.Args = append(inner.Args, refAtom(left[0]))
		return r.args(inner, left[1:])
	}
	t := r.fresh()
	binds := r.binds(t, left[0], true)
	inner.Args = append(inner.Args, api.Atom{Name: t})
	return rec(binds, r.args(inner, left[1:]))
}

func (r *ref) prim(inner api.Stg, left []api.Expr) api.Stg {
	if len(left) == 0 {
		return inner
	}
	if left[0].Kind == api.Lit {
		inner.Args = append(inner.Args, refAtom(left[0]))
		return r.prim(inner, left[1:])
	}
	t := r.fresh()
	of := r.expr(left[0])
	inner.Args = append(inner.Args, api.Atom{Name: t})
	return refCase(of, t, r.prim(inner, left[1:]))
}

func (r *ref) binds(x string, e api.Expr, update bool) []api.SBind {
	if e.Kind == api.Con {
		var binds []api.SBind
		cell := api.SBind{Name: x, Kind: api.SCell, Con: e.Name}
		for _, field := range e.Subs {
			if isAtom(field) {
				cell.Args = append(cell.Args, refAtom(field))
				continue
			}
			t := r.fresh()
			binds = append(binds, r.binds(t, field, true)...)
			cell.Args = append(cell.Args, api.Atom{Name: t})
		}
		return append(binds, cell)
	}
	free := slices.DeleteFunc(core.Free(e), func(name string) bool { return slices.Contains(r.top, name) })
	if e.Kind == api.Lam {
		return []api.SBind{{Name: x, Kind: api.SFun, Free: free, Params: e.Names, Body: []api.Stg{r.expr(e.Subs[0])}}}
	}
	return []api.SBind{{Name: x, Kind: api.SThunk, Free: free, Update: update, Body: []api.Stg{r.expr(e)}}}
}

// refCore is the same for Core.
func refCore(p api.SProgram) api.Program {
	return api.Program{Cons: p.Cons, Binds: refBack(p.Binds)}
}

func refBack(binds []api.SBind) []api.Bind {
	var made []api.Bind
	for _, b := range binds {
		e := lit(0)
		switch {
		case b.Kind == api.SFun && len(b.Body) > 0:
			if e = refExpr(b.Body[0]); len(b.Params) > 0 {
				e = api.Expr{Kind: api.Lam, Names: b.Params, Subs: []api.Expr{e}}
			}
		case b.Kind == api.SThunk && len(b.Body) > 0:
			e = refExpr(b.Body[0])
		case b.Kind == api.SCell:
			e = con(b.Con, refAtoms(b.Args)...)
		}
		made = append(made, bind(b.Name, e))
	}
	return made
}

func refAtoms(atoms []api.Atom) []api.Expr {
	var made []api.Expr
	for _, a := range atoms {
		if a.Name != "" {
			made = append(made, v(a.Name))
		} else {
			made = append(made, lit(a.N))
		}
	}
	return made
}

func refExpr(e api.Stg) api.Expr {
	args := refAtoms(e.Args)
	switch {
	case e.Kind == api.SAtom && len(args) > 0:
		return args[0]
	case e.Kind == api.SCall && len(args) > 0:
		return app(append([]api.Expr{v(e.Name)}, args...)...)
	case e.Kind == api.SCall:
		return v(e.Name)
	case e.Kind == api.SCon:
		return con(e.Name, args...)
	case e.Kind == api.SPrim:
		return prim(e.Op, args...)
	case e.Kind == api.SCase && len(e.Subs) > 0:
		made := cas(refExpr(e.Subs[0]), e.Name)
		for _, a := range e.Alts {
			made.Alts = append(made.Alts, api.Alt{Kind: a.Kind, Name: a.Name, N: a.N, Names: a.Names, Body: refExpr(a.Body)})
		}
		return made
	case e.Kind == api.SRec && len(e.Subs) > 0:
		return let(refExpr(e.Subs[0]), refBack(e.Binds)...)
	}
	return lit(0)
}
