package stg_test

import (
	"slices"
	"strconv"
	"strings"
	"testing"

	"teasel/api"
	"teasel/core"
	"teasel/stg"
)

func v(name string) api.Expr { return api.Expr{Kind: api.Var, Name: name} }

func lit(n int) api.Expr { return api.Expr{Kind: api.Lit, N: n} }

// lam takes its names in one text, with blanks between them.
func lam(names string, body api.Expr) api.Expr {
	return api.Expr{Kind: api.Lam, Names: strings.Fields(names), Subs: []api.Expr{body}}
}

func app(subs ...api.Expr) api.Expr { return api.Expr{Kind: api.App, Subs: subs} }

func bind(name string, e api.Expr) api.Bind { return api.Bind{Name: name, Expr: e} }

func let(body api.Expr, binds ...api.Bind) api.Expr {
	return api.Expr{Kind: api.Let, Binds: binds, Subs: []api.Expr{body}}
}

// let1 is a Let of one bind.
func let1(name string, e, body api.Expr) api.Expr { return let(body, bind(name, e)) }

func cas(of api.Expr, name string, alts ...api.Alt) api.Expr {
	return api.Expr{Kind: api.Case, Name: name, Subs: []api.Expr{of}, Alts: alts}
}

func con(name string, fields ...api.Expr) api.Expr {
	return api.Expr{Kind: api.Con, Name: name, Subs: fields}
}

func box(e api.Expr) api.Expr { return con(api.Box, e) }

func pair(a, b api.Expr) api.Expr { return con("Pair", a, b) }

func prim(op int, arguments ...api.Expr) api.Expr {
	return api.Expr{Kind: api.Prim, Op: op, Subs: arguments}
}

func get() api.Expr { return prim(api.Get) }

func raise() api.Expr { return prim(api.Raise) }

func add(a, b api.Expr) api.Expr { return prim(api.Add, a, b) }

func conAlt(name, names string, body api.Expr) api.Alt {
	return api.Alt{Kind: api.ConAlt, Name: name, Names: strings.Fields(names), Body: body}
}

func litAlt(n int, body api.Expr) api.Alt { return api.Alt{Kind: api.LitAlt, N: n, Body: body} }

func other(body api.Expr) api.Alt { return api.Alt{Kind: api.Default, Body: body} }

// cons is the constructors that programs have.
func cons() []api.Cons {
	return []api.Cons{{Name: api.False, Family: 2}, {Name: api.True, Tag: 1, Family: 2}, {Name: api.Unit, Family: 1}, {Name: api.Box, Arity: 1, Family: 1},
		{Name: "Nil", Family: 2}, {Name: "Cons", Arity: 2, Tag: 1, Family: 2}, {Name: "Pair", Arity: 2, Family: 1}, {Name: "Many", Arity: 5, Family: 1}}
}

// program is one with those constructors.
func program(binds ...api.Bind) api.Program { return api.Program{Cons: cons(), Binds: binds} }

// mainOf is a main that is e; in e the names s, a, b and c are bound.
func mainOf(e api.Expr) api.Bind { return bind(api.Main, lam("s a b c", e)) }

// tops is what stands at the top beside main, and what becomes of it.
func tops() []api.Bind {
	return []api.Bind{bind("f", lam("f1", v("f1"))), bind("g", con("Nil"))}
}

const topsSaid = "; f = fun [] f1 -> f1; g = !Nil"

// made is what Of makes of a program.
func made(t *testing.T, p api.Program) api.SProgram {
	t.Helper()
	q, errno := stg.Of(p)
	if errno != api.OK {
		t.Fatalf("%s: %v, Lint: %v", sayProgram(p), errno, core.Lint(p))
	}
	holdResult(t, p, q)
	return q
}

// wantBinds holds what becomes of the Binds of a program.
func wantBinds(t *testing.T, want string, binds ...api.Bind) {
	t.Helper()
	p := program(binds...)
	q := made(t, p)
	if got := saySBinds(q.Binds); got != want || !slices.Equal(q.Cons, p.Cons) {
		t.Errorf("%s:\ngot  %s\nwant %s", sayProgram(p), got, want)
	}
}

// want holds what becomes of an expression in main.
func want(t *testing.T, e api.Expr, want string) {
	t.Helper()
	wantBinds(t, "Main.main = fun [] s a b c -> "+want+topsSaid, append([]api.Bind{mainOf(e)}, tops()...)...)
}

// say is an expression as a text, for messages.
func say(e api.Expr) string {
	var parts []string
	for _, s := range e.Subs {
		parts = append(parts, say(s))
	}
	subs := strings.Join(parts, " ")
	switch e.Kind {
	case api.Var:
		return e.Name
	case api.Lit:
		return strconv.Itoa(e.N)
	case api.Lam:
		return "(\\" + strings.Join(e.Names, " ") + " -> " + subs + ")"
	case api.App:
		return "(" + subs + ")"
	case api.Let:
		return "(let " + sayBinds(e.Binds) + " in " + subs + ")"
	case api.Case:
		return "(case " + subs + " as " + e.Name + " of {" + sayAlts(e.Alts) + "})"
	case api.Con:
		return "(" + strings.TrimSpace("!"+e.Name+" "+subs) + ")"
	case api.Prim:
		return "(" + strings.TrimSpace("#"+strconv.Itoa(e.Op)+" "+subs) + ")"
	}
	return "(kind " + strconv.Itoa(e.Kind) + ")"
}

func sayBinds(binds []api.Bind) string {
	var parts []string
	for _, b := range binds {
		parts = append(parts, b.Name+" = "+say(b.Expr))
	}
	return strings.Join(parts, "; ")
}

func sayProgram(p api.Program) string { return sayBinds(p.Binds) }

func sayAlts(alts []api.Alt) string {
	var parts []string
	for _, a := range alts {
		parts = append(parts, sayHead(a.Kind, a.Name, a.N, a.Names)+" -> "+say(a.Body))
	}
	return strings.Join(parts, "; ")
}

func sayHead(kind int, name string, n int, names []string) string {
	switch kind {
	case api.ConAlt:
		return strings.Join(append([]string{name}, names...), " ")
	case api.LitAlt:
		return strconv.Itoa(n)
	case api.Default:
		return "_"
	}
	return "kind " + strconv.Itoa(kind)
}

func sayAtoms(head string, atoms []api.Atom) string {
	for _, a := range atoms {
		head += " " + sayAtom(a)
	}
	return head
}

func sayAtom(a api.Atom) string {
	if a.Name == "" {
		return strconv.Itoa(a.N)
	}
	return a.Name
}

// sayStg is an expression of STG as a text.
func sayStg(e api.Stg) string {
	switch {
	case e.Kind == api.SAtom && len(e.Args) == 1:
		return sayAtom(e.Args[0])
	case e.Kind == api.SCall:
		return "(" + sayAtoms(e.Name, e.Args) + ")"
	case e.Kind == api.SCon:
		return "(" + sayAtoms("!"+e.Name, e.Args) + ")"
	case e.Kind == api.SPrim:
		return "(" + sayAtoms("#"+strconv.Itoa(e.Op), e.Args) + ")"
	case e.Kind == api.SCase && len(e.Subs) == 1:
		var parts []string
		for _, a := range e.Alts {
			parts = append(parts, sayHead(a.Kind, a.Name, a.N, a.Names)+" -> "+sayStg(a.Body))
		}
		return "case " + sayStg(e.Subs[0]) + " as " + e.Name + " of {" + strings.Join(parts, "; ") + "}"
	case e.Kind == api.SRec && len(e.Subs) == 1:
		return "rec {" + saySBinds(e.Binds) + "} in " + sayStg(e.Subs[0])
	}
	return "(kind " + strconv.Itoa(e.Kind) + " of " + strconv.Itoa(len(e.Args)) + ", " + strconv.Itoa(len(e.Subs)) + ")"
}

// saySBinds has once for a thunk without Update.
func saySBinds(binds []api.SBind) string {
	var parts []string
	for _, b := range binds {
		text := b.Name + " = "
		switch {
		case b.Kind == api.SCell:
			text += sayAtoms("!"+b.Con, b.Args)
		case b.Kind == api.SFun && len(b.Body) == 1:
			text += "fun [" + strings.Join(b.Free, " ") + "] " + strings.Join(b.Params, " ") + " -> " + sayStg(b.Body[0])
		case b.Kind == api.SThunk && len(b.Body) == 1 && b.Update:
			text += "thunk [" + strings.Join(b.Free, " ") + "] " + sayStg(b.Body[0])
		case b.Kind == api.SThunk && len(b.Body) == 1:
			text += "once [" + strings.Join(b.Free, " ") + "] " + sayStg(b.Body[0])
		default:
			text += "kind " + strconv.Itoa(b.Kind)
		}
		parts = append(parts, text)
	}
	return strings.Join(parts, "; ")
}

// equal says whether two expressions are equal, field by field.
func equal(a, b api.Expr) bool {
	return a.Kind == b.Kind && a.Name == b.Name && a.N == b.N && a.Op == b.Op && slices.Equal(a.Names, b.Names) &&
		slices.EqualFunc(a.Subs, b.Subs, equal) && slices.EqualFunc(a.Binds, b.Binds, equalBinds) &&
		slices.EqualFunc(a.Alts, b.Alts, func(c, d api.Alt) bool {
			return c.Kind == d.Kind && c.Name == d.Name && c.N == d.N && slices.Equal(c.Names, d.Names) && equal(c.Body, d.Body)
		})
}

func equalBinds(a, b api.Bind) bool { return a.Name == b.Name && equal(a.Expr, b.Expr) }

func equalPrograms(p, q api.Program) bool {
	return slices.Equal(p.Cons, q.Cons) && slices.EqualFunc(p.Binds, q.Binds, equalBinds)
}

// equalStg is the same for expressions of STG.
func equalStg(a, b api.Stg) bool {
	return a.Kind == b.Kind && a.Name == b.Name && a.Op == b.Op && slices.Equal(a.Args, b.Args) &&
		slices.EqualFunc(a.Subs, b.Subs, equalStg) && slices.EqualFunc(a.Binds, b.Binds, equalSBinds) &&
		slices.EqualFunc(a.Alts, b.Alts, func(c, d api.SAlt) bool {
			return c.Kind == d.Kind && c.Name == d.Name && c.N == d.N && slices.Equal(c.Names, d.Names) && equalStg(c.Body, d.Body)
		})
}

func equalSBinds(a, b api.SBind) bool {
	return a.Name == b.Name && a.Kind == b.Kind && a.Update == b.Update && a.Con == b.Con && slices.Equal(a.Free, b.Free) &&
		slices.Equal(a.Params, b.Params) && slices.Equal(a.Args, b.Args) && slices.EqualFunc(a.Body, b.Body, equalStg)
}

func equalSPrograms(p, q api.SProgram) bool {
	return slices.Equal(p.Cons, q.Cons) && slices.EqualFunc(p.Binds, q.Binds, equalSBinds)
}

// isZero says whether a program of STG is the zero one.
func isZero(p api.SProgram) bool { return p.Cons == nil && p.Binds == nil }
