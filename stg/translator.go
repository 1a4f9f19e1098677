package stg

import (
	"slices"
	"strconv"

	"teasel/api"
)

// translator translates the expressions of a program that Lint accepts, in which
// no name is bound twice.
type translator struct {
	next     int               // the number of the next fresh name
	within   *closure          // the one whose Body is being made; none at the top
	closures []*closure        // all of them
	places   map[string]*place // of the names that are not bound at the top
}

func (t *translator) fresh() string {
	name := "t#" + strconv.Itoa(t.next)
	t.next++
	return name
}

func (t *translator) expr(e *api.Expr) api.Stg {
	switch e.Kind {
	case api.Var:
		t.use(e.Name, true)
		return atom(api.Atom{Name: e.Name})
	case api.Lit:
		return atom(api.Atom{N: e.N})
	case api.Lam:
		name, g := t.fresh(), &group{}
		t.bind(g, name, e)
		return g.around(atom(api.Atom{Name: name}))
	case api.App:
		return t.app(e)
	case api.Let:
		return t.let(e)
	case api.Case:
		return t.cases(e)
	case api.Con:
		return t.given(api.Stg{Kind: api.SCon, Name: e.Name}, e.Subs)
	}
	return t.prim(e)
}

func atom(a api.Atom) api.Stg { return api.Stg{Kind: api.SAtom, Args: []api.Atom{a}} }

func (t *translator) app(e *api.Expr) api.Stg {
	f, arguments := &e.Subs[0], e.Subs[1:]
	if f.Kind == api.Var {
		t.use(f.Name, true)
		return t.given(api.Stg{Kind: api.SCall, Name: f.Name}, arguments)
	}
	name := t.fresh()
	function := t.expr(f)
	return ahead(function, name, t.given(api.Stg{Kind: api.SCall, Name: name}, arguments))
}

// ahead evaluates an expression ahead of another one, in which it has a name.
func ahead(e api.Stg, name string, body api.Stg) api.Stg {
	return api.Stg{Kind: api.SCase, Name: name, Subs: []api.Stg{e}, Alts: []api.SAlt{{Kind: api.Default, Body: body}}}
}

// given is a call or a constructor with its arguments, inside the binds of those
// that need names.
func (t *translator) given(e api.Stg, arguments []api.Expr) api.Stg {
	var groups []*group
	for i := range arguments {
		g := &group{}
		e.Args = append(e.Args, t.argument(g, &arguments[i]))
		if len(g.binds) > 0 {
			groups = append(groups, g)
		}
	}
	for _, g := range slices.Backward(groups) {
		e = g.around(e)
	}
	return e
}

// argument is what stands for an expression as an argument: if this needs a name,
// it is bound in g.
func (t *translator) argument(g *group, e *api.Expr) api.Atom {
	switch e.Kind {
	case api.Var:
		t.use(e.Name, false)
		return api.Atom{Name: e.Name}
	case api.Lit:
		return api.Atom{N: e.N}
	}
	name := t.fresh()
	t.bind(g, name, e)
	return api.Atom{Name: name}
}

func (t *translator) prim(e *api.Expr) api.Stg {
	made := api.Stg{Kind: api.SPrim, Op: e.Op}
	var names []string
	var values []api.Stg
	for i := range e.Subs {
		if e.Subs[i].Kind == api.Lit {
			made.Args = append(made.Args, api.Atom{N: e.Subs[i].N})
			continue
		}
		name := t.fresh()
		made.Args = append(made.Args, api.Atom{Name: name})
		names, values = append(names, name), append(values, t.expr(&e.Subs[i]))
	}
	for i, name := range slices.Backward(names) {
		made = ahead(values[i], name, made)
	}
	return made
}

func (t *translator) let(e *api.Expr) api.Stg {
	for i := range e.Binds {
		t.enter(e.Binds[i].Name)
	}
	g := t.together(e.Binds)
	body := t.expr(&e.Subs[0])
	if len(e.Binds) == 1 && t.places[e.Binds[0].Name].straight {
		// Behind what the fields of a constructor need stands a cell, which has
		// no Update anyway.
		g.binds[len(g.binds)-1].Update = false
	}
	return g.around(body)
}

func (t *translator) cases(e *api.Expr) api.Stg {
	made := api.Stg{Kind: api.SCase, Name: e.Name, Subs: []api.Stg{t.expr(&e.Subs[0])}}
	t.enter(e.Name)
	for i := range e.Alts {
		a := &e.Alts[i]
		t.enter(a.Names...)
		made.Alts = append(made.Alts, api.SAlt{Kind: a.Kind, Name: a.Name, N: a.N, Names: slices.Clone(a.Names), Body: t.expr(&a.Body)})
	}
	return made
}

// together is all of some Binds as binds.
func (t *translator) together(binds []api.Bind) *group {
	g := &group{}
	for i := range binds {
		t.bind(g, binds[i].Name, &binds[i].Expr)
	}
	return g
}

// bind adds a name and an expression as binds.
func (t *translator) bind(g *group, name string, e *api.Expr) {
	made := api.SBind{Name: name}
	switch e.Kind {
	case api.Con:
		made.Kind, made.Con = api.SCell, e.Name
		for i := range e.Subs {
			made.Args = append(made.Args, t.argument(g, &e.Subs[i]))
		}
		g.add(made, nil)
		return
	case api.Lam:
		made.Kind, made.Params = api.SFun, slices.Clone(e.Names)
		e = &e.Subs[0]
	default:
		made.Kind, made.Update = api.SThunk, true
	}
	c := &closure{around: t.within}
	t.within, t.closures = c, append(t.closures, c)
	t.enter(made.Params...)
	made.Body = []api.Stg{t.expr(e)}
	t.within = c.around
	g.add(made, c)
}
