package demand_test

import (
	"slices"
	"strconv"
	"strings"
	"testing"

	"teasel/api"
	"teasel/core"
	"teasel/demand"
)

func v(name string) api.Expr { return api.Expr{Kind: api.Var, Name: name} }

func lit(n int) api.Expr { return api.Expr{Kind: api.Lit, N: n} }

// lam takes its names in one text, with blanks between them.
func lam(names string, body api.Expr) api.Expr {
	return api.Expr{Kind: api.Lam, Names: strings.Fields(names), Subs: []api.Expr{body}}
}

func app(subs ...api.Expr) api.Expr { return api.Expr{Kind: api.App, Subs: subs} }

func bind(name string, e api.Expr) api.Bind { return api.Bind{Name: name, Expr: e} }

func let(body api.Expr, binds ...api.Bind) api.Expr {
	return api.Expr{Kind: api.Let, Binds: binds, Subs: []api.Expr{body}}
}

// let1 is a Let of one bind.
func let1(name string, e, body api.Expr) api.Expr { return let(body, bind(name, e)) }

func cas(of api.Expr, name string, alts ...api.Alt) api.Expr {
	return api.Expr{Kind: api.Case, Name: name, Subs: []api.Expr{of}, Alts: alts}
}

func con(name string, fields ...api.Expr) api.Expr {
	return api.Expr{Kind: api.Con, Name: name, Subs: fields}
}

func pair(a, b api.Expr) api.Expr { return con("Pair", a, b) }

func prim(op int, arguments ...api.Expr) api.Expr {
	return api.Expr{Kind: api.Prim, Op: op, Subs: arguments}
}

func get() api.Expr { return prim(api.Get) }

func raise() api.Expr { return prim(api.Raise) }

func add(a, b api.Expr) api.Expr { return prim(api.Add, a, b) }

func conAlt(name, names string, body api.Expr) api.Alt {
	return api.Alt{Kind: api.ConAlt, Name: name, Names: strings.Fields(names), Body: body}
}

func litAlt(n int, body api.Expr) api.Alt { return api.Alt{Kind: api.LitAlt, N: n, Body: body} }

func other(body api.Expr) api.Alt { return api.Alt{Kind: api.Default, Body: body} }

// cons is the constructors that programs have.
func cons() []api.Cons {
	return []api.Cons{{Name: api.False, Family: 2}, {Name: api.True, Tag: 1, Family: 2}, {Name: api.Unit, Family: 1}, {Name: api.Box, Arity: 1, Family: 1},
		{Name: "Nil", Family: 2}, {Name: "Cons", Arity: 2, Tag: 1, Family: 2}, {Name: "Pair", Arity: 2, Family: 1}}
}

// program is one with those constructors.
func program(binds ...api.Bind) api.Program { return api.Program{Cons: cons(), Binds: binds} }

// boxed is a main that answers e; in e the names s and f are bound.
func boxed(e api.Expr) api.Bind { return bind(api.Main, lam("s f", con(api.Box, e))) }

// first holds what an expression demands first, by some orders.
func first(t *testing.T, e api.Expr, want string, orders ...api.Order) {
	t.Helper()
	if got := strings.Join(demand.First(e, orders...), " "); got != want {
		t.Errorf("%s: got %q, want %q", say(e), got, want)
	}
}

// order is that of a name.
func order(name string, arity int, numbers ...int) api.Order {
	return api.Order{Name: name, Arity: arity, Numbers: numbers}
}

// wantOrders holds what the functions at the top of a program demand first.
func wantOrders(t *testing.T, p api.Program, want ...api.Order) {
	t.Helper()
	got, errno := demand.Orders(p)
	if errno != api.OK || !slices.EqualFunc(got, want, equalOrders) {
		t.Errorf("%s: %v\ngot  %v\nwant %v", sayProgram(p), errno, got, want)
	}
}

func equalOrders(a, b api.Order) bool {
	return a.Name == b.Name && a.Arity == b.Arity && slices.Equal(a.Numbers, b.Numbers)
}

// changed is what Run makes of a program.
func changed(t *testing.T, p api.Program) api.Program {
	t.Helper()
	q, errno := demand.Run(p)
	if errno != api.OK {
		t.Fatalf("%s: %v", sayProgram(p), errno)
	}
	return q
}

// wantBinds holds what Run makes of the Binds of a program.
func wantBinds(t *testing.T, p api.Program, want ...api.Bind) {
	t.Helper()
	if errno := core.Lint(p); errno != api.OK {
		t.Fatalf("%s: Lint: %v", sayProgram(p), errno)
	}
	q := changed(t, p)
	if !equalPrograms(q, api.Program{Cons: p.Cons, Binds: want}) {
		t.Errorf("%s:\ngot  %s\nwant %s", sayProgram(p), sayProgram(q), sayBinds(want))
	}
}

// functions is names at the top by which calls are tried.
func functions() []api.Bind {
	a, b, c := v("a"), v("b"), v("c")
	return []api.Bind{
		bind("M.none", lam("n1 n2", con("Nil"))),
		bind("M.one", lam("o1 o2", v("o2"))),
		bind("M.two", lam("w1 w2", prim(api.Minus, v("w2"), v("w1")))),
		bind("M.all", lam("a b c", add(add(a, b), c))),
		bind("M.value", get()),
	}
}

// want holds what Run makes of an expression in a program with these functions.
func want(t *testing.T, e, to api.Expr) {
	t.Helper()
	wantBinds(t, program(append(functions(), boxed(e))...), append(functions(), boxed(to))...)
}

// wantSame holds that Run changes nothing.
func wantSame(t *testing.T, e api.Expr) {
	t.Helper()
	want(t, e, e)
}

// ahead is what evaluates an expression ahead of another one.
func ahead(e api.Expr, name string, body api.Expr) api.Expr { return cas(e, name, other(body)) }

// say is an expression as a text, for messages.
func say(e api.Expr) string {
	var parts []string
	for _, s := range e.Subs {
		parts = append(parts, say(s))
	}
	subs := strings.Join(parts, " ")
	switch e.Kind {
	case api.Var:
		return e.Name
	case api.Lit:
		return strconv.Itoa(e.N)
	case api.Lam:
		return "(\\" + strings.Join(e.Names, " ") + " -> " + subs + ")"
	case api.App:
		return "(" + subs + ")"
	case api.Let:
		return "(let " + sayBinds(e.Binds) + " in " + subs + ")"
	case api.Case:
		return "(case " + subs + " as " + e.Name + " of {" + sayAlts(e.Alts) + "})"
	case api.Con:
		return "(" + strings.TrimSpace("!"+e.Name+" "+subs) + ")"
	case api.Prim:
		return "(" + strings.TrimSpace("#"+strconv.Itoa(e.Op)+" "+subs) + ")"
	}
	return "(kind " + strconv.Itoa(e.Kind) + ")"
}

func sayBinds(binds []api.Bind) string {
	var parts []string
	for _, b := range binds {
		parts = append(parts, b.Name+" = "+say(b.Expr))
	}
	return strings.Join(parts, "; ")
}

func sayProgram(p api.Program) string { return sayBinds(p.Binds) }

func sayAlts(alts []api.Alt) string {
	var parts []string
	for _, a := range alts {
		head := "_"
		switch a.Kind {
		case api.ConAlt:
			head = strings.Join(append([]string{a.Name}, a.Names...), " ")
		case api.LitAlt:
			head = strconv.Itoa(a.N)
		}
		parts = append(parts, head+" -> "+say(a.Body))
	}
	return strings.Join(parts, "; ")
}

// equal says whether two expressions are equal, field by field.
func equal(a, b api.Expr) bool {
	return a.Kind == b.Kind && a.Name == b.Name && a.N == b.N && a.Op == b.Op && slices.Equal(a.Names, b.Names) &&
		slices.EqualFunc(a.Subs, b.Subs, equal) && slices.EqualFunc(a.Binds, b.Binds, equalBinds) &&
		slices.EqualFunc(a.Alts, b.Alts, func(c, d api.Alt) bool {
			return c.Kind == d.Kind && c.Name == d.Name && c.N == d.N && slices.Equal(c.Names, d.Names) && equal(c.Body, d.Body)
		})
}

func equalBinds(a, b api.Bind) bool { return a.Name == b.Name && equal(a.Expr, b.Expr) }

func equalPrograms(p, q api.Program) bool {
	return slices.Equal(p.Cons, q.Cons) && slices.EqualFunc(p.Binds, q.Binds, equalBinds)
}

// isZero says whether a program is the zero one.
func isZero(p api.Program) bool { return p.Cons == nil && p.Binds == nil }
