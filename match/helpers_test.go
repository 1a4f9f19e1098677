package match_test

import (
	"slices"
	"strconv"
	"strings"
	"testing"

	"teasel/api"
	"teasel/match"
)

// Expressions.

func v(name string) api.Expr { return api.Expr{Kind: api.Var, Name: name} }

func lit(n int) api.Expr { return api.Expr{Kind: api.Lit, N: n} }

// lam takes its names in one text, with blanks between them.
func lam(names string, body api.Expr) api.Expr {
	return api.Expr{Kind: api.Lam, Names: strings.Fields(names), Subs: []api.Expr{body}}
}

func app(subs ...api.Expr) api.Expr { return api.Expr{Kind: api.App, Subs: subs} }

func bind(name string, e api.Expr) api.Bind { return api.Bind{Name: name, Expr: e} }

func let(body api.Expr, binds ...api.Bind) api.Expr {
	return api.Expr{Kind: api.Let, Binds: binds, Subs: []api.Expr{body}}
}

func cas(of api.Expr, name string, alts ...api.Alt) api.Expr {
	return api.Expr{Kind: api.Case, Name: name, Subs: []api.Expr{of}, Alts: alts}
}

func con(name string, fields ...api.Expr) api.Expr {
	return api.Expr{Kind: api.Con, Name: name, Subs: fields}
}

func prim(op int, arguments ...api.Expr) api.Expr {
	return api.Expr{Kind: api.Prim, Op: op, Subs: arguments}
}

func conAlt(name, names string, body api.Expr) api.Alt {
	return api.Alt{Kind: api.ConAlt, Name: name, Names: strings.Fields(names), Body: body}
}

func litAlt(n int, body api.Expr) api.Alt { return api.Alt{Kind: api.LitAlt, N: n, Body: body} }

func other(body api.Expr) api.Alt { return api.Alt{Kind: api.Default, Body: body} }

func next() api.Expr { return v(api.Next) }

// Patterns.

func pvar(name string) api.Node { return api.Node{Kind: api.PVar, Name: name} }

func wild() api.Node { return api.Node{Kind: api.PWild} }

func num(n int) api.Node { return api.Node{Kind: api.PInt, N: n} }

func text(bytes string) api.Node { return api.Node{Kind: api.PStr, Name: bytes} }

func pcon(name string, subs ...api.Node) api.Node {
	return api.Node{Kind: api.PCon, Name: name, Subs: subs}
}

func tup(subs ...api.Node) api.Node { return api.Node{Kind: api.PTup, Subs: subs} }

func list(subs ...api.Node) api.Node { return api.Node{Kind: api.PList, Subs: subs} }

func as(name string, p api.Node) api.Node {
	return api.Node{Kind: api.PAs, Name: name, Subs: []api.Node{p}}
}

func rec(name string, fields ...api.Node) api.Node {
	return api.Node{Kind: api.PMake, Name: name, Subs: fields}
}

func field(name string, p api.Node) api.Node {
	return api.Node{Kind: api.EField, Name: name, Subs: []api.Node{p}}
}

func row(body api.Expr, pats ...api.Node) api.Row { return api.Row{Pats: pats, Body: body} }

// table is the constructors of Prim, those of families of three and of one, and
// labels, of which some are given another time.
func table() api.Table {
	return api.Table{
		Cons: []api.Cons{{Name: api.False, Family: 2}, {Name: api.True, Tag: 1, Family: 2}, {Name: api.Unit, Family: 1}, {Name: api.Box, Arity: 1, Family: 1},
			{Name: "Prim.(,)", Arity: 2, Family: 1}, {Name: "Prim.(,,)", Arity: 3, Family: 1}, {Name: "Prim.[]", Family: 2}, {Name: "Prim.:", Arity: 2, Tag: 1, Family: 2},
			{Name: "A", Family: 3}, {Name: "B", Arity: 1, Tag: 1, Family: 3}, {Name: "C", Arity: 2, Tag: 2, Family: 3}, {Name: "R", Arity: 3, Family: 1}, {Name: "U", Family: 1},
			// These come too late.
			{Name: "B", Arity: 2, Family: 1}, {Name: "R", Arity: 1, Tag: 1, Family: 2}},
		Labels: []api.Label{{Name: "b", Con: "B"}, {Name: "one", Con: "C"}, {Name: "two", Con: "C", Place: 1},
			{Name: "x", Con: "R", Place: 2}, {Name: "y", Con: "R"}, {Name: "z", Con: "R", Place: 1}, {Name: "zz", Con: "R", Place: 1}, {Name: "below", Con: "R", Place: -1}, {Name: "behind", Con: "R", Place: 3},
			// These come too late.
			{Name: "x", Con: "R", Place: 1}, {Name: "two", Con: "C", Place: 0}},
	}
}

// say is an expression as a text.
func say(e api.Expr) string {
	var parts []string
	for _, s := range e.Subs {
		parts = append(parts, say(s))
	}
	subs := strings.Join(parts, " ")
	switch e.Kind {
	case api.Var:
		return e.Name
	case api.Lit:
		return strconv.Itoa(e.N)
	case api.Lam:
		return "(\\" + strings.Join(e.Names, " ") + " -> " + subs + ")"
	case api.App:
		return "(" + subs + ")"
	case api.Let:
		return "let " + sayBinds(e.Binds) + " in " + subs
	case api.Case:
		return "case " + subs + " as " + e.Name + " {" + sayAlts(e.Alts) + "}"
	case api.Con:
		return strings.TrimSpace("!" + e.Name + " " + subs)
	case api.Prim:
		return strings.TrimSpace("#" + strconv.Itoa(e.Op) + " " + subs)
	}
	return "(kind " + strconv.Itoa(e.Kind) + ")"
}

func sayBinds(binds []api.Bind) string {
	var parts []string
	for _, b := range binds {
		parts = append(parts, b.Name+" = "+say(b.Expr))
	}
	return strings.Join(parts, "; ")
}

func sayAlts(alts []api.Alt) string {
	var parts []string
	for _, a := range alts {
		head := "_"
		switch a.Kind {
		case api.ConAlt:
			head = strings.Join(append([]string{a.Name}, a.Names...), " ")
		case api.LitAlt:
			head = strconv.Itoa(a.N)
		}
		parts = append(parts, head+" -> "+say(a.Body))
	}
	return strings.Join(parts, "; ")
}

// sayNode is a node as a text: the number of its Kind, and what it has.
func sayNode(n api.Node) string {
	s := strconv.Itoa(n.Kind)
	switch n.Kind {
	case api.PVar, api.PWild, api.PInt, api.PStr, api.PCon, api.PTup, api.PList, api.PAs, api.PMake:
		s = []string{"var", "_", "int", "str", "con", "ops", "tup", "list", "as", "make"}[n.Kind-api.PVar]
	case api.EField:
		s = "field"
	}
	if n.Name != "" {
		s += ":" + n.Name
	}
	if n.N != 0 {
		s += " " + strconv.Itoa(n.N)
	}
	return "(" + strings.TrimSpace(s+" "+sayNodes(n.Subs)) + ")"
}

func sayNodes(nodes []api.Node) string {
	var parts []string
	for _, n := range nodes {
		parts = append(parts, sayNode(n))
	}
	return strings.Join(parts, " ")
}

func sayRows(rows []api.Row) string {
	var parts []string
	for _, r := range rows {
		parts = append(parts, sayNodes(r.Pats)+" => "+say(r.Body))
	}
	return strings.Join(parts, " | ")
}

// equal says whether two expressions are equal, by the words of P10.2.
func equal(a, b api.Expr) bool {
	return a.Kind == b.Kind && a.Name == b.Name && a.N == b.N && a.Op == b.Op && slices.Equal(a.Names, b.Names) &&
		slices.EqualFunc(a.Subs, b.Subs, equal) &&
		slices.EqualFunc(a.Binds, b.Binds, func(c, d api.Bind) bool { return c.Name == d.Name && equal(c.Expr, d.Expr) }) &&
		slices.EqualFunc(a.Alts, b.Alts, func(c, d api.Alt) bool {
			return c.Kind == d.Kind && c.Name == d.Name && c.N == d.N && slices.Equal(c.Names, d.Names) && equal(c.Body, d.Body)
		})
}

// wantCompile holds that Compile answers an expression of that text, and the
// next number, and both as the second way does. The names are in one text, with
// blanks between them.
func wantCompile(t *testing.T, want string, wantNext int, tab api.Table, names string, first int, rows ...api.Row) {
	t.Helper()
	e, n, errno := match.Compile(tab, strings.Fields(names), first, rows...)
	if errno != api.OK || n != wantNext || say(e) != want {
		t.Errorf("%s:\ngot  %s, next %d, %v\nwant %s, next %d", sayRows(rows), say(e), n, errno, want, wantNext)
	}
	wantAsReference(t, tab, strings.Fields(names), first, rows...)
}

// wantAsReference holds that Compile answers what the second way does.
func wantAsReference(t *testing.T, tab api.Table, names []string, first int, rows ...api.Row) api.Errno {
	t.Helper()
	e, n, errno := match.Compile(tab, names, first, rows...)
	wantE, wantN, wantErrno := refCompile(tab, names, first, rows...)
	if errno != wantErrno || n != wantN || !equal(e, wantE) {
		t.Fatalf("%q %d: %s:\ngot  %s, next %d, %v\nwant %s, next %d, %v", names, first, sayRows(rows), say(e), n, errno, say(wantE), wantN, wantErrno)
	}
	return errno
}

// wantErrArg holds that Compile answers ErrArg, and nothing else.
func wantErrArg(t *testing.T, what string, tab api.Table, names []string, first int, rows ...api.Row) {
	t.Helper()
	e, n, errno := match.Compile(tab, names, first, rows...)
	if errno != api.ErrArg || n != 0 || !equal(e, api.Expr{}) {
		t.Errorf("%s: %s: got %s, next %d, %v", what, sayRows(rows), say(e), n, errno)
	}
}
