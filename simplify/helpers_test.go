package simplify_test

import (
	"slices"
	"strconv"
	"strings"
	"testing"

	"teasel/api"
	"teasel/core"
	"teasel/simplify"
)

func v(name string) api.Expr { return api.Expr{Kind: api.Var, Name: name} }

func lit(n int) api.Expr { return api.Expr{Kind: api.Lit, N: n} }

// lam takes its names in one text, with blanks between them.
func lam(names string, body api.Expr) api.Expr {
	return api.Expr{Kind: api.Lam, Names: strings.Fields(names), Subs: []api.Expr{body}}
}

func app(subs ...api.Expr) api.Expr { return api.Expr{Kind: api.App, Subs: subs} }

func bind(name string, e api.Expr) api.Bind { return api.Bind{Name: name, Expr: e} }

func let(body api.Expr, binds ...api.Bind) api.Expr {
	return api.Expr{Kind: api.Let, Binds: binds, Subs: []api.Expr{body}}
}

// let1 is a Let of one bind.
func let1(name string, e, body api.Expr) api.Expr { return let(body, bind(name, e)) }

func cas(of api.Expr, name string, alts ...api.Alt) api.Expr {
	return api.Expr{Kind: api.Case, Name: name, Subs: []api.Expr{of}, Alts: alts}
}

func con(name string, fields ...api.Expr) api.Expr {
	return api.Expr{Kind: api.Con, Name: name, Subs: fields}
}

func pair(a, b api.Expr) api.Expr { return con("Pair", a, b) }

func prim(op int, arguments ...api.Expr) api.Expr {
	return api.Expr{Kind: api.Prim, Op: op, Subs: arguments}
}

func get() api.Expr { return prim(api.Get) }

func raise() api.Expr { return prim(api.Raise) }

func add(a, b api.Expr) api.Expr { return prim(api.Add, a, b) }

func conAlt(name, names string, body api.Expr) api.Alt {
	return api.Alt{Kind: api.ConAlt, Name: name, Names: strings.Fields(names), Body: body}
}

func litAlt(n int, body api.Expr) api.Alt { return api.Alt{Kind: api.LitAlt, N: n, Body: body} }

func other(body api.Expr) api.Alt { return api.Alt{Kind: api.Default, Body: body} }

// cons is the constructors that programs have.
func cons() []api.Cons {
	return []api.Cons{{Name: api.False, Family: 2}, {Name: api.True, Tag: 1, Family: 2}, {Name: api.Unit, Family: 1}, {Name: api.Box, Arity: 1, Family: 1},
		{Name: "Nil", Family: 2}, {Name: "Cons", Arity: 2, Tag: 1, Family: 2}, {Name: "Pair", Arity: 2, Family: 1}}
}

// program is one with those constructors.
func program(binds ...api.Bind) api.Program { return api.Program{Cons: cons(), Binds: binds} }

// boxed is a main that answers e; in e the names s and f are bound.
func boxed(e api.Expr) api.Bind { return bind(api.Main, lam("s f", con(api.Box, e))) }

// pass is a program behind one pass.
func pass(t *testing.T, p api.Program) api.Program {
	t.Helper()
	q, errno := simplify.Pass(p)
	if errno != api.OK {
		t.Fatalf("%s: %v", sayProgram(p), errno)
	}
	return q
}

// wantPass holds what an expression becomes in one pass.
func wantPass(t *testing.T, e, want api.Expr) {
	t.Helper()
	wantBinds(t, program(boxed(e)), boxed(want))
}

// wantBinds holds what the Binds of a program become in one pass.
func wantBinds(t *testing.T, p api.Program, want ...api.Bind) {
	t.Helper()
	if errno := core.Lint(p); errno != api.OK {
		t.Fatalf("%s: Lint: %v", sayProgram(p), errno)
	}
	q := pass(t, p)
	if !equalPrograms(q, api.Program{Cons: p.Cons, Binds: want}) {
		t.Errorf("%s:\ngot  %s\nwant %s", sayProgram(p), sayProgram(q), sayBinds(want))
	}
}

// wantSame holds that a pass changes nothing.
func wantSame(t *testing.T, e api.Expr) {
	t.Helper()
	wantPass(t, e, e)
}

// say is an expression as a text, for messages.
func say(e api.Expr) string {
	var parts []string
	for _, s := range e.Subs {
		parts = append(parts, say(s))
	}
	subs := strings.Join(parts, " ")
	switch e.Kind {
	case api.Var:
		return e.Name
	case api.Lit:
		return strconv.Itoa(e.N)
	case api.Lam:
		return "(\\" + strings.Join(e.Names, " ") + " -> " + subs + ")"
	case api.App:
		return "(" + subs + ")"
	case api.Let:
		return "(let " + sayBinds(e.Binds) + " in " + subs + ")"
	case api.Case:
		return "(case " + subs + " as " + e.Name + " of {" + sayAlts(e.Alts) + "})"
	case api.Con:
		return "(" + strings.TrimSpace("!"+e.Name+" "+subs) + ")"
	case api.Prim:
		return "(" + strings.TrimSpace("#"+strconv.Itoa(e.Op)+" "+subs) + ")"
	}
	return "(kind " + strconv.Itoa(e.Kind) + ")"
}

func sayBinds(binds []api.Bind) string {
	var parts []string
	for _, b := range binds {
		parts = append(parts, b.Name+" = "+say(b.Expr))
	}
	return strings.Join(parts, "; ")
}

func sayProgram(p api.Program) string { return sayBinds(p.Binds) }

func sayAlts(alts []api.Alt) string {
	var parts []string
	for _, a := range alts {
		head := "_"
		switch a.Kind {
		case api.ConAlt:
			head = strings.Join(append([]string{a.Name}, a.Names...), " ")
		case api.LitAlt:
			head = strconv.Itoa(a.N)
		}
		parts = append(parts, head+" -> "+say(a.Body))
	}
	return strings.Join(parts, "; ")
}

// equal says whether two expressions are equal, field by field.
func equal(a, b api.Expr) bool {
	return a.Kind == b.Kind && a.Name == b.Name && a.N == b.N && a.Op == b.Op && slices.Equal(a.Names, b.Names) &&
		slices.EqualFunc(a.Subs, b.Subs, equal) && slices.EqualFunc(a.Binds, b.Binds, equalBinds) &&
		slices.EqualFunc(a.Alts, b.Alts, func(c, d api.Alt) bool {
			return c.Kind == d.Kind && c.Name == d.Name && c.N == d.N && slices.Equal(c.Names, d.Names) && equal(c.Body, d.Body)
		})
}

func equalBinds(a, b api.Bind) bool { return a.Name == b.Name && equal(a.Expr, b.Expr) }

func equalPrograms(p, q api.Program) bool {
	return slices.Equal(p.Cons, q.Cons) && slices.EqualFunc(p.Binds, q.Binds, equalBinds)
}

// isZero says whether a program is the zero one.
func isZero(p api.Program) bool { return p.Cons == nil && p.Binds == nil }
