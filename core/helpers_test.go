package core_test

import (
	"slices"
	"strconv"
	"strings"
	"testing"

	"teasel/api"
	"teasel/core"
)

func v(name string) api.Expr { return api.Expr{Kind: api.Var, Name: name} }

func lit(n int) api.Expr { return api.Expr{Kind: api.Lit, N: n} }

// lam takes its names in one text, with blanks between them.
func lam(names string, body api.Expr) api.Expr {
	return api.Expr{Kind: api.Lam, Names: strings.Fields(names), Subs: []api.Expr{body}}
}

func app(subs ...api.Expr) api.Expr { return api.Expr{Kind: api.App, Subs: subs} }

func bind(name string, e api.Expr) api.Bind { return api.Bind{Name: name, Expr: e} }

func let(body api.Expr, binds ...api.Bind) api.Expr {
	return api.Expr{Kind: api.Let, Binds: binds, Subs: []api.Expr{body}}
}

func cas(of api.Expr, name string, alts ...api.Alt) api.Expr {
	return api.Expr{Kind: api.Case, Name: name, Subs: []api.Expr{of}, Alts: alts}
}

func con(name string, fields ...api.Expr) api.Expr {
	return api.Expr{Kind: api.Con, Name: name, Subs: fields}
}

func prim(op int, arguments ...api.Expr) api.Expr {
	return api.Expr{Kind: api.Prim, Op: op, Subs: arguments}
}

func conAlt(name, names string, body api.Expr) api.Alt {
	return api.Alt{Kind: api.ConAlt, Name: name, Names: strings.Fields(names), Body: body}
}

func litAlt(n int, body api.Expr) api.Alt { return api.Alt{Kind: api.LitAlt, N: n, Body: body} }

func other(body api.Expr) api.Alt { return api.Alt{Kind: api.Default, Body: body} }

// own is the constructors that each program has.
func own() []api.Cons {
	return []api.Cons{{Name: api.False, Family: 2}, {Name: api.True, Tag: 1, Family: 2}, {Name: api.Unit, Family: 1}, {Name: api.Box, Arity: 1, Family: 1}}
}

// more is constructors of other families.
func more() []api.Cons {
	return append(own(), api.Cons{Name: "Nil", Family: 2}, api.Cons{Name: "Cons", Arity: 2, Tag: 1, Family: 2}, api.Cons{Name: "Pair", Arity: 2, Family: 1},
		api.Cons{Name: "R", Family: 3}, api.Cons{Name: "G", Arity: 1, Tag: 1, Family: 3}, api.Cons{Name: "B", Arity: 2, Tag: 2, Family: 3})
}

// boxed is a main that answers e; in e the name s is bound.
func boxed(e api.Expr) api.Bind { return bind(api.Main, lam("s", con(api.Box, e))) }

// program is one with a main that answers 7, and other binds.
func program(binds ...api.Bind) api.Program {
	return api.Program{Cons: more(), Binds: append([]api.Bind{boxed(lit(7))}, binds...)}
}

// answering is a program whose main answers e.
func answering(e api.Expr) api.Program {
	return api.Program{Cons: more(), Binds: []api.Bind{boxed(e)}}
}

// errorText is an error's name.
func errorText(e api.Errno) string {
	switch e {
	case api.OK:
		return "OK"
	case api.ErrBig:
		return "ErrBig"
	case api.ErrDeep:
		return "ErrDeep"
	case api.ErrShape:
		return "ErrShape"
	case api.ErrCons:
		return "ErrCons"
	case api.ErrName:
		return "ErrName"
	case api.ErrScope:
		return "ErrScope"
	case api.ErrArity:
		return "ErrArity"
	case api.ErrAlts:
		return "ErrAlts"
	case api.ErrNoMain:
		return "ErrNoMain"
	}
	return "error " + strconv.Itoa(int(e))
}

// wantLint holds what Lint answers for a program.
func wantLint(t *testing.T, what string, want api.Errno, p api.Program) {
	t.Helper()
	if got := core.Lint(p); got != want {
		t.Errorf("%s: got %s, want %s", what, errorText(got), errorText(want))
	}
}

// say is an expression as a text, for messages.
func say(e api.Expr) string {
	var parts []string
	for _, s := range e.Subs {
		parts = append(parts, say(s))
	}
	subs := strings.Join(parts, " ")
	switch e.Kind {
	case api.Var:
		return e.Name
	case api.Lit:
		return strconv.Itoa(e.N)
	case api.Lam:
		return "(\\" + strings.Join(e.Names, " ") + " -> " + subs + ")"
	case api.App:
		return "(" + subs + ")"
	case api.Let:
		return "(let " + sayBinds(e.Binds) + " in " + subs + ")"
	case api.Case:
		return "(case " + subs + " as " + e.Name + " of {" + sayAlts(e.Alts) + "})"
	case api.Con:
		return "(" + strings.TrimSpace("!"+e.Name+" "+subs) + ")"
	case api.Prim:
		return "(" + strings.TrimSpace("#"+strconv.Itoa(e.Op)+" "+subs) + ")"
	}
	return "(kind " + strconv.Itoa(e.Kind) + ")"
}

func sayBinds(binds []api.Bind) string {
	var parts []string
	for _, b := range binds {
		parts = append(parts, b.Name+" = "+say(b.Expr))
	}
	return strings.Join(parts, "; ")
}

func sayAlts(alts []api.Alt) string {
	var parts []string
	for _, a := range alts {
		head := "_"
		switch a.Kind {
		case api.ConAlt:
			head = strings.Join(append([]string{a.Name}, a.Names...), " ")
		case api.LitAlt:
			head = strconv.Itoa(a.N)
		}
		parts = append(parts, head+" -> "+say(a.Body))
	}
	return strings.Join(parts, "; ")
}

// equal says whether two expressions are equal, by the words of P10.2.
func equal(a, b api.Expr) bool {
	return a.Kind == b.Kind && a.Name == b.Name && a.N == b.N && a.Op == b.Op && slices.Equal(a.Names, b.Names) &&
		slices.EqualFunc(a.Subs, b.Subs, equal) &&
		slices.EqualFunc(a.Binds, b.Binds, func(c, d api.Bind) bool { return c.Name == d.Name && equal(c.Expr, d.Expr) }) &&
		slices.EqualFunc(a.Alts, b.Alts, func(c, d api.Alt) bool {
			return c.Kind == d.Kind && c.Name == d.Name && c.N == d.N && slices.Equal(c.Names, d.Names) && equal(c.Body, d.Body)
		})
}

// clone shares no memory with e.
func clone(e api.Expr) api.Expr {
	e.Names = slices.Clone(e.Names)
	e.Subs = slices.Clone(e.Subs)
	for i := range e.Subs {
		e.Subs[i] = clone(e.Subs[i])
	}
	e.Binds = slices.Clone(e.Binds)
	for i := range e.Binds {
		e.Binds[i].Expr = clone(e.Binds[i].Expr)
	}
	e.Alts = slices.Clone(e.Alts)
	for i := range e.Alts {
		e.Alts[i].Names = slices.Clone(e.Alts[i].Names)
		e.Alts[i].Body = clone(e.Alts[i].Body)
	}
	return e
}

func cloneProgram(p api.Program) api.Program {
	return api.Program{Cons: slices.Clone(p.Cons), Binds: clone(let(lit(0), p.Binds...)).Binds}
}

// wantWords holds that names are those of a text, with blanks between them.
func wantWords(t *testing.T, what string, got []string, want string) {
	t.Helper()
	if text := strings.Join(got, " "); text != want || len(got) != len(strings.Fields(want)) {
		t.Errorf("%s: got %q, want %q", what, text, want)
	}
}

// changeBinders tells where each name is that e binds, so that it can be changed.
func changeBinders(e *api.Expr, change func(name *string)) {
	for i := range e.Names {
		change(&e.Names[i])
	}
	if e.Kind == api.Case {
		change(&e.Name)
	}
	for i := range e.Subs {
		changeBinders(&e.Subs[i], change)
	}
	for i := range e.Binds {
		change(&e.Binds[i].Name)
		changeBinders(&e.Binds[i].Expr, change)
	}
	for i := range e.Alts {
		for j := range e.Alts[i].Names {
			change(&e.Alts[i].Names[j])
		}
		changeBinders(&e.Alts[i].Body, change)
	}
}
