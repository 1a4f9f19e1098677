package occur_test

import (
	"slices"
	"strconv"
	"strings"
	"testing"

	"teasel/api"
	"teasel/occur"
)

func v(name string) api.Expr { return api.Expr{Kind: api.Var, Name: name} }

func lit(n int) api.Expr { return api.Expr{Kind: api.Lit, N: n} }

// lam takes its names in one text, with blanks between them.
func lam(names string, body api.Expr) api.Expr {
	return api.Expr{Kind: api.Lam, Names: strings.Fields(names), Subs: []api.Expr{body}}
}

func app(subs ...api.Expr) api.Expr { return api.Expr{Kind: api.App, Subs: subs} }

func bind(name string, e api.Expr) api.Bind { return api.Bind{Name: name, Expr: e} }

func let(body api.Expr, binds ...api.Bind) api.Expr {
	return api.Expr{Kind: api.Let, Binds: binds, Subs: []api.Expr{body}}
}

func cas(of api.Expr, name string, alts ...api.Alt) api.Expr {
	return api.Expr{Kind: api.Case, Name: name, Subs: []api.Expr{of}, Alts: alts}
}

func con(name string, fields ...api.Expr) api.Expr {
	return api.Expr{Kind: api.Con, Name: name, Subs: fields}
}

func prim(op int, arguments ...api.Expr) api.Expr {
	return api.Expr{Kind: api.Prim, Op: op, Subs: arguments}
}

func conAlt(name, names string, body api.Expr) api.Alt {
	return api.Alt{Kind: api.ConAlt, Name: name, Names: strings.Fields(names), Body: body}
}

func litAlt(n int, body api.Expr) api.Alt { return api.Alt{Kind: api.LitAlt, N: n, Body: body} }

func other(body api.Expr) api.Alt { return api.Alt{Kind: api.Default, Body: body} }

// cons is the constructors that programs have.
func cons() []api.Cons {
	return []api.Cons{{Name: api.False, Family: 2}, {Name: api.True, Tag: 1, Family: 2}, {Name: api.Unit, Family: 1}, {Name: api.Box, Arity: 1, Family: 1},
		{Name: "Nil", Family: 2}, {Name: "Cons", Arity: 2, Tag: 1, Family: 2}, {Name: "Pair", Arity: 2, Family: 1}}
}

// program is one with those constructors.
func program(binds ...api.Bind) api.Program { return api.Program{Cons: cons(), Binds: binds} }

// boxed is a main that answers e; in e the name s is bound.
func boxed(e api.Expr) api.Bind { return bind(api.Main, lam("s", con(api.Box, e))) }

// wantUses holds how often a name occurs in e, and whether once inside a Lam.
func wantUses(t *testing.T, e api.Expr, name string, times int, inside bool) {
	t.Helper()
	gotTimes, gotInside := occur.Uses(e, name)
	if gotTimes != times || gotInside != inside {
		t.Errorf("%s in %s: got %d, %v, want %d, %v", name, say(e), gotTimes, gotInside, times, inside)
	}
	if got, want := occur.Once(e, name), times == 1 && !inside; got != want {
		t.Errorf("%s in %s: Once: got %v", name, say(e), got)
	}
}

// wantLive holds which binds are live, in a text with blanks between the indices.
func wantLive(t *testing.T, want string, body api.Expr, binds ...api.Bind) {
	t.Helper()
	var parts []string
	for _, i := range occur.Live(body, binds...) {
		parts = append(parts, strconv.Itoa(i))
	}
	if got := strings.Join(parts, " "); got != want {
		t.Errorf("%s with %s: got %q, want %q", say(body), sayBinds(binds), got, want)
	}
}

// wantReached holds which Binds of a program are reached.
func wantReached(t *testing.T, want string, binds ...api.Bind) {
	t.Helper()
	if got := strings.Join(occur.Reached(program(binds...)), " "); got != want {
		t.Errorf("%s: got %q, want %q", sayBinds(binds), got, want)
	}
}

// say is an expression as a text, for messages.
func say(e api.Expr) string {
	var parts []string
	for _, s := range e.Subs {
		parts = append(parts, say(s))
	}
	subs := strings.Join(parts, " ")
	switch e.Kind {
	case api.Var:
		return e.Name
	case api.Lit:
		return strconv.Itoa(e.N)
	case api.Lam:
		return "(\\" + strings.Join(e.Names, " ") + " -> " + subs + ")"
	case api.App:
		return "(" + subs + ")"
	case api.Let:
		return "(let " + sayBinds(e.Binds) + " in " + subs + ")"
	case api.Case:
		return "(case " + subs + " as " + e.Name + " of {" + sayAlts(e.Alts) + "})"
	case api.Con:
		return "(" + strings.TrimSpace("!"+e.Name+" "+subs) + ")"
	case api.Prim:
		return "(" + strings.TrimSpace("#"+strconv.Itoa(e.Op)+" "+subs) + ")"
	}
	return "(kind " + strconv.Itoa(e.Kind) + ")"
}

func sayBinds(binds []api.Bind) string {
	var parts []string
	for _, b := range binds {
		parts = append(parts, b.Name+" = "+say(b.Expr))
	}
	return strings.Join(parts, "; ")
}

func sayAlts(alts []api.Alt) string {
	var parts []string
	for _, a := range alts {
		head := "_"
		switch a.Kind {
		case api.ConAlt:
			head = strings.Join(append([]string{a.Name}, a.Names...), " ")
		case api.LitAlt:
			head = strconv.Itoa(a.N)
		}
		parts = append(parts, head+" -> "+say(a.Body))
	}
	return strings.Join(parts, "; ")
}

// equal says whether two expressions are equal, field by field.
func equal(a, b api.Expr) bool {
	return a.Kind == b.Kind && a.Name == b.Name && a.N == b.N && a.Op == b.Op && slices.Equal(a.Names, b.Names) &&
		slices.EqualFunc(a.Subs, b.Subs, equal) &&
		slices.EqualFunc(a.Binds, b.Binds, func(c, d api.Bind) bool { return c.Name == d.Name && equal(c.Expr, d.Expr) }) &&
		slices.EqualFunc(a.Alts, b.Alts, func(c, d api.Alt) bool {
			return c.Kind == d.Kind && c.Name == d.Name && c.N == d.N && slices.Equal(c.Names, d.Names) && equal(c.Body, d.Body)
		})
}
