package desugar

import (
	"slices"

	"teasel/api"
)

// Expressions of Core.

func variable(name string) api.Expr { return api.Expr{Kind: api.Var, Name: name} }

func variables(names ...string) []api.Expr {
	all := make([]api.Expr, len(names))
	for i, name := range names {
		all[i] = variable(name)
	}
	return all
}

func number(n int) api.Expr { return api.Expr{Kind: api.Lit, N: n} }

func prim(op int, args ...api.Expr) api.Expr {
	return api.Expr{Kind: api.Prim, Op: op, Subs: args}
}

func raise() api.Expr { return prim(api.Raise) }

func con(name string, fields ...api.Expr) api.Expr {
	return api.Expr{Kind: api.Con, Name: name, Subs: fields}
}

// lam is a function of names; without any, its body.
func lam(body api.Expr, names ...string) api.Expr {
	if len(names) == 0 {
		return body
	}
	return api.Expr{Kind: api.Lam, Names: names, Subs: []api.Expr{body}}
}

// app is a function with arguments; without any, the function.
func app(f api.Expr, args ...api.Expr) api.Expr {
	if len(args) == 0 {
		return f
	}
	return api.Expr{Kind: api.App, Subs: slices.Concat([]api.Expr{f}, args)}
}

// let is binds around a body; without any, the body.
func let(body api.Expr, binds ...api.Bind) api.Expr {
	if len(binds) == 0 {
		return body
	}
	return api.Expr{Kind: api.Let, Binds: binds, Subs: []api.Expr{body}}
}

func alternative(con string, body api.Expr, names ...string) api.Alt {
	return api.Alt{Kind: api.ConAlt, Name: con, Names: names, Body: body}
}

func otherwise(body api.Expr) api.Alt { return api.Alt{Kind: api.Default, Body: body} }

// goOn goes on with the next row, by the name of what does that.
func goOn(next string) api.Expr { return app(variable(next), con(api.Unit)) }

// look is a Case whose scrutinee no alternative names.
func (t *translator) look(scrutinee api.Expr, alts ...api.Alt) api.Expr {
	return api.Expr{Kind: api.Case, Subs: []api.Expr{scrutinee}, Name: t.fresh(), Alts: alts}
}

// take is a Case of a constructor's fields, which fails for all other
// constructors.
func (t *translator) take(of api.Expr, c api.Cons, body api.Expr, names ...string) api.Expr {
	alts := []api.Alt{alternative(c.Name, body, names...)}
	if c.Family > 1 {
		alts = append(alts, otherwise(raise()))
	}
	return t.look(of, alts...)
}

func (t *translator) conditional(condition, yes, no api.Expr) api.Expr {
	return t.look(condition, alternative(api.True, yes), alternative(api.False, no))
}
