package demand

import (
	"slices"
	"strconv"

	"teasel/api"
)

// changer changes the expressions of a program that Lint accepts, in which no name
// is bound twice.
type changer struct {
	*looker
	next int            // of the next fresh name
	uses map[string]int // how many Vars of a name there have been so far
}

func (c *changer) binds(binds []api.Bind) []api.Bind {
	binds = slices.Clone(binds)
	for i := range binds {
		binds[i].Expr = c.expr(binds[i].Expr)
	}
	return binds
}

func (c *changer) exprs(all []api.Expr) []api.Expr {
	all = slices.Clone(all)
	for i := range all {
		all[i] = c.expr(all[i])
	}
	return all
}

// expr is an expression that is changed, in memory of its own.
func (c *changer) expr(e api.Expr) api.Expr {
	made := api.Expr{Kind: e.Kind, Name: e.Name, N: e.N, Op: e.Op, Names: slices.Clone(e.Names), Subs: c.exprs(e.Subs)}
	switch e.Kind {
	case api.Var:
		c.uses[e.Name]++
	case api.App:
		return c.app(made)
	case api.Let:
		return c.let(made, e.Binds)
	case api.Case:
		made.Alts = slices.Clone(e.Alts)
		for i := range made.Alts {
			alt := &made.Alts[i]
			alt.Names, alt.Body = slices.Clone(alt.Names), c.expr(alt.Body)
		}
	}
	return made
}

// let is a Let whose body is changed, with binds that are not.
func (c *changer) let(e api.Expr, binds []api.Bind) api.Expr {
	x := binds[0].Name
	before := c.uses[x]
	e.Binds = c.binds(binds)
	if len(e.Binds) > 1 || c.uses[x] > before || !c.begins(&e.Subs[0], x) {
		return e
	}
	switch r := e.Binds[0].Expr; r.Kind {
	case api.App, api.Let, api.Case, api.Prim:
		return ahead(r, x, e.Subs[0])
	}
	return e
}

// app is an App whose parts are changed.
func (c *changer) app(e api.Expr) api.Expr {
	order, found := c.order(&e)
	if !found {
		return e
	}
	var names []string
	var args []api.Expr
	for _, n := range order.Numbers {
		arg := &e.Subs[1+n]
		if arg.Kind == api.Var {
			break
		}
		if arg.Kind == api.Lit || arg.Kind == api.Lam || arg.Kind == api.Con {
			continue
		}
		name := "t#" + strconv.Itoa(c.next)
		c.next++
		names, args = append(names, name), append(args, *arg)
		*arg = api.Expr{Kind: api.Var, Name: name}
	}
	for i, name := range slices.Backward(names) {
		e = ahead(args[i], name, e)
	}
	return e
}

// ahead evaluates an expression ahead of another one, in which it has a name.
func ahead(r api.Expr, name string, body api.Expr) api.Expr {
	return api.Expr{Kind: api.Case, Name: name, Subs: []api.Expr{r}, Alts: []api.Alt{{Kind: api.Default, Body: body}}}
}
