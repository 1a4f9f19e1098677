package match_test

import (
	"testing"

	"teasel/api"
)

// The chapter's examples.
func TestExamples(t *testing.T) {
	wantCompile(t, `let m#1 = (\m#2 -> let y = x in y) in case x as m#3 {1 -> 7; _ -> (m#1 !Prim.())}`, 4,
		table(), "x", 1, row(lit(7), num(1)), row(v("y"), pvar("y")))
	wantCompile(t, `case x as m#1 {Prim.(,) m#2 m#3 -> let a = m#2 in a}`, 4,
		table(), "x", 1, row(v("a"), tup(pvar("a"), wild())))
	wantCompile(t, `#11`, 1, table(), "x", 1)
}

// P11.1: no rows, no names, and other first numbers.
func TestNothing(t *testing.T) {
	wantCompile(t, `#11`, 1, api.Table{}, "", 1)
	wantCompile(t, `#11`, 70, table(), "x y z", 70)
	wantCompile(t, `7`, 1, table(), "", 1, row(lit(7)))
	wantCompile(t, `7`, 3, api.Table{}, "", 3, row(lit(7)), row(lit(8)))
	wantCompile(t, `let m#5 = (\m#6 -> 8) in (m#5 !Prim.())`, 7, table(), "", 5, row(next()), row(lit(8)))
	wantCompile(t, `let m#1 = (\m#2 -> let m#3 = (\m#4 -> #11) in (m#3 !Prim.())) in (m#1 !Prim.())`, 5, api.Table{}, "", 1, row(next()), row(next()))
	wantCompile(t, `let m#99 = (\m#100 -> #11) in case x as m#101 {-5 -> x; _ -> (m#99 !Prim.())}`, 102, api.Table{}, "x", 99, row(v("x"), num(-5)))
	wantCompile(t, `let y = x in let z = x in y`, 1, api.Table{}, "x x", 1, row(v("y"), pvar("y"), pvar("z")))
}

// P11.1: each sort of pattern, in the first column and in a later one.
func TestSorts(t *testing.T) {
	const failing, onwards = `let m#1 = (\m#2 -> #11) in `, `; _ -> (m#1 !Prim.())}`
	for _, c := range []struct {
		p    api.Node
		c, d string // what is made of it ahead of the rest, against c or d, and behind that
		end  string
		next int
	}{
		{wild(), ``, ``, ``, 1},
		{pvar("y"), `let y = c in `, `let y = d in `, ``, 1},
		{as("y", wild()), `let y = c in `, `let y = d in `, ``, 1},
		{as("y", pvar("z")), `let y = c in let z = c in `, `let y = d in let z = d in `, ``, 1},
		{num(0), failing + `case c as m#3 {0 -> `, failing + `case d as m#3 {0 -> `, onwards, 4},
		{num(1 << 62), failing + `case c as m#3 {4611686018427387904 -> `, failing + `case d as m#3 {4611686018427387904 -> `, onwards, 4},
		{as("y", num(7)), failing + `let y = c in case c as m#3 {7 -> `, failing + `let y = d in case d as m#3 {7 -> `, onwards, 4},
		{pcon("A"), failing + `case c as m#3 {A -> `, failing + `case d as m#3 {A -> `, onwards, 4},
		{pcon("B", wild()), failing + `case c as m#3 {B m#4 -> `, failing + `case d as m#3 {B m#4 -> `, onwards, 5},
		{pcon("C", pvar("y"), pvar("z")), failing + `case c as m#3 {C m#4 m#5 -> let y = m#4 in let z = m#5 in `, failing + `case d as m#3 {C m#4 m#5 -> let y = m#4 in let z = m#5 in `, onwards, 6},
		{pcon("R", pvar("y"), wild(), pvar("z")), `case c as m#1 {R m#2 m#3 m#4 -> let y = m#2 in let z = m#4 in `, `case d as m#1 {R m#2 m#3 m#4 -> let y = m#2 in let z = m#4 in `, `}`, 5},
		{pcon("U"), `case c as m#1 {U -> `, `case d as m#1 {U -> `, `}`, 2},
		{tup(wild(), pvar("y")), `case c as m#1 {Prim.(,) m#2 m#3 -> let y = m#3 in `, `case d as m#1 {Prim.(,) m#2 m#3 -> let y = m#3 in `, `}`, 4},
		{tup(wild(), wild(), pvar("y")), `case c as m#1 {Prim.(,,) m#2 m#3 m#4 -> let y = m#4 in `, `case d as m#1 {Prim.(,,) m#2 m#3 m#4 -> let y = m#4 in `, `}`, 5},
		{list(), failing + `case c as m#3 {Prim.[] -> `, failing + `case d as m#3 {Prim.[] -> `, onwards, 4},
		{list(pvar("y")), failing + `case c as m#3 {Prim.: m#4 m#5 -> let y = m#4 in case m#5 as m#6 {Prim.[] -> `, failing + `case d as m#3 {Prim.: m#4 m#5 -> let y = m#4 in case m#5 as m#6 {Prim.[] -> `, onwards + onwards, 7},
		{text(""), failing + `case c as m#3 {Prim.[] -> `, failing + `case d as m#3 {Prim.[] -> `, onwards, 4},
		{text("\xff"), failing + `case c as m#3 {Prim.: m#4 m#5 -> case m#4 as m#6 {255 -> case m#5 as m#7 {Prim.[] -> `, failing + `case d as m#3 {Prim.: m#4 m#5 -> case m#4 as m#6 {255 -> case m#5 as m#7 {Prim.[] -> `, onwards + onwards + onwards, 8},
		{rec("R"), `case c as m#1 {R m#2 m#3 m#4 -> `, `case d as m#1 {R m#2 m#3 m#4 -> `, `}`, 5},
		{rec("A"), failing + `case c as m#3 {A -> `, failing + `case d as m#3 {A -> `, onwards, 4},
		{rec("R", field("x", pvar("p")), field("zz", wild()), field("y", pvar("q"))), `case c as m#1 {R m#2 m#3 m#4 -> let p = m#4 in let q = m#2 in `, `case d as m#1 {R m#2 m#3 m#4 -> let p = m#4 in let q = m#2 in `, `}`, 5},
		{rec("C", field("two", pvar("p")), field("one", pvar("q"))), failing + `case c as m#3 {C m#4 m#5 -> let p = m#5 in let q = m#4 in `, failing + `case d as m#3 {C m#4 m#5 -> let p = m#5 in let q = m#4 in `, onwards, 6},
	} {
		wantCompile(t, c.c+`7`+c.end, c.next, table(), "c d", 1, row(lit(7), c.p, wild()))
		wantCompile(t, c.d+`7`+c.end, c.next, table(), "c d", 1, row(lit(7), wild(), c.p))
		wantCompile(t, c.c+`let w = d in w`+c.end, c.next, table(), "c d", 1, row(v("w"), c.p, pvar("w")))
	}
}

// P11.1: what stands within other patterns, and ahead of others.
func TestWithin(t *testing.T) {
	// The numbers of what is within come behind those of all fields, and ahead of
	// those of what stands to the right.
	wantCompile(t, `case c as m#1 {Prim.(,) m#2 m#3 -> case m#2 as m#4 {Prim.(,) m#5 m#6 -> case m#6 as m#7 {U -> case m#3 as m#8 {U -> case d as m#9 {U -> 7}}}}}`, 10,
		table(), "c d", 1, row(lit(7), tup(tup(wild(), pcon("U")), pcon("U")), pcon("U")))
	wantCompile(t, `case c as m#1 {R m#2 m#3 m#4 -> case m#4 as m#5 {U -> case m#2 as m#6 {Prim.(,) m#7 m#8 -> case m#3 as m#9 {U -> 7}}}}`, 10,
		table(), "c", 1, row(lit(7), rec("R", field("x", pcon("U")), field("y", tup(wild(), wild())), field("z", pcon("U")))))
	wantCompile(t, `let m#1 = (\m#2 -> #11) in let a = c in case c as m#3 {Prim.: m#4 m#5 -> let b = m#4 in case m#4 as m#6 {1 -> case m#5 as m#7 {Prim.: m#8 m#9 -> case m#8 as m#10 {2 -> case m#9 as m#11 {Prim.[] -> 7; _ -> (m#1 !Prim.())}; _ -> (m#1 !Prim.())}; _ -> (m#1 !Prim.())}; _ -> (m#1 !Prim.())}; _ -> (m#1 !Prim.())}`, 12,
		table(), "c", 1, row(lit(7), as("a", list(as("b", num(1)), num(2)))))
	wantCompile(t, `let m#1 = (\m#2 -> #11) in case c as m#3 {B m#4 -> case m#4 as m#5 {Prim.: m#6 m#7 -> case m#6 as m#8 {97 -> case m#7 as m#9 {Prim.: m#10 m#11 -> case m#10 as m#12 {98 -> case m#11 as m#13 {Prim.[] -> 7; _ -> (m#1 !Prim.())}; _ -> (m#1 !Prim.())}; _ -> (m#1 !Prim.())}; _ -> (m#1 !Prim.())}; _ -> (m#1 !Prim.())}; _ -> (m#1 !Prim.())}`, 14,
		table(), "c", 1, row(lit(7), pcon("B", text("ab"))))
	inner := []api.Node{wild(), pvar("p"), num(3), text(""), text("ab"), pcon("A"), pcon("B", num(4)), pcon("R", wild(), num(5), pvar("p")), tup(pvar("p"), num(6)), tup(wild(), wild(), wild()),
		list(), list(pvar("p"), num(7)), as("q", num(8)), as("q", tup(wild(), pvar("p"))), rec("R"), rec("C", field("two", num(9)))}
	for _, p := range inner {
		for _, q := range inner {
			for _, whole := range []api.Node{p, as("w", p), pcon("B", p), pcon("C", q, p), tup(p, q), tup(q, wild(), p), list(p), list(q, p), rec("R", field("z", p), field("y", q)), pcon("Prim.:", p, q)} {
				wantAsReference(t, table(), []string{"c", "d"}, 1, row(v("p"), whole, q), row(lit(1), q, whole), row(lit(2), wild(), wild()))
			}
		}
	}
}

// P11.1: the numbers of f and d, then of the other rows, then of the row itself.
func TestNumbers(t *testing.T) {
	wantCompile(t, `let m#1 = (\m#2 -> let m#3 = (\m#4 -> let m#5 = (\m#6 -> #11) in case c as m#7 {3 -> 30; _ -> (m#5 !Prim.())}) in case c as m#8 {2 -> 20; _ -> (m#3 !Prim.())}) in case c as m#9 {1 -> 10; _ -> (m#1 !Prim.())}`, 10,
		table(), "c", 1, row(lit(10), num(1)), row(lit(20), num(2)), row(lit(30), num(3)))
	wantCompile(t, `let m#10 = (\m#11 -> case c as m#12 {Prim.(,) m#13 m#14 -> 20}) in case c as m#15 {Prim.(,) m#16 m#17 -> case m#17 as m#18 {1 -> 10; _ -> (m#10 !Prim.())}}`, 19,
		table(), "c", 10, row(lit(10), tup(wild(), num(1))), row(lit(20), tup(wild(), wild())))
}

// P11.1: rows that are irrefutable, and those behind them.
func TestIrrefutableRows(t *testing.T) {
	one, two := row(lit(1), num(1)), row(lit(2), num(2))
	for _, c := range []struct {
		p, q api.Node
		want string
		next int
	}{
		{wild(), wild(), `7`, 1},
		{pvar("y"), as("z", wild()), `let y = c in let z = d in 7`, 1},
		{pcon("U"), tup(wild(), rec("R", field("x", wild()))), `case c as m#1 {U -> case d as m#2 {Prim.(,) m#3 m#4 -> case m#4 as m#5 {R m#6 m#7 m#8 -> 7}}}`, 9},
	} {
		wantCompile(t, c.want, c.next, table(), "c d", 1, row(lit(7), c.p, c.q))
		wantCompile(t, c.want, c.next, table(), "c d", 1, row(lit(7), c.p, c.q), row(lit(1), num(1), num(2)), row(next(), wild(), wild()))
	}
	// One that is not goes on with those behind it.
	wantCompile(t, `let m#1 = (\m#2 -> 7) in case c as m#3 {1 -> 1; _ -> (m#1 !Prim.())}`, 4, table(), "c", 1, one, row(lit(7), wild()), two, row(next(), wild()))
	// A list never is irrefutable, whatever its constructors' Family; nor is any other sort.
	odd := api.Table{Cons: []api.Cons{{Name: "Prim.[]", Family: 1}, {Name: "Prim.:", Arity: 2, Family: 1}, {Name: api.Unit, Family: 2}, {Name: "Prim.(,)", Arity: 2, Family: 0}, {Name: "N", Family: -1}}}
	wantCompile(t, `let m#1 = (\m#2 -> #11) in case c as m#3 {Prim.[] -> 7}`, 4, odd, "c", 1, row(lit(7), list()))
	wantCompile(t, `let m#1 = (\m#2 -> 8) in case c as m#3 {Prim.: m#4 m#5 -> case m#5 as m#6 {Prim.[] -> 7}}`, 7, odd, "c", 1, row(lit(7), list(wild())), row(lit(8), wild()))
	wantCompile(t, `let m#1 = (\m#2 -> #11) in case c as m#3 {Prim.[] -> 7}`, 4, odd, "c", 1, row(lit(7), text("")))
	wantCompile(t, `let m#1 = (\m#2 -> #11) in case c as m#3 {Prim.: m#4 m#5 -> case m#4 as m#6 {33 -> case m#5 as m#7 {Prim.[] -> 7}; _ -> (m#1 !Prim.())}}`, 8, odd, "c", 1, row(lit(7), text("!")))
	wantCompile(t, `case c as m#1 {Prim.: m#2 m#3 -> case m#3 as m#4 {Prim.[] -> 7}}`, 5, odd, "c", 1, row(lit(7), pcon("Prim.:", wild(), pcon("Prim.[]"))))
	wantCompile(t, `let m#1 = (\m#2 -> #11) in case c as m#3 {Prim.() -> 7; _ -> (m#1 !Prim.())}`, 4, odd, "c", 1, row(lit(7), pcon(api.Unit)))
	wantCompile(t, `let m#1 = (\m#2 -> #11) in case c as m#3 {Prim.(,) m#4 m#5 -> 7; _ -> (m#1 !Prim.())}`, 6, odd, "c", 1, row(lit(7), tup(wild(), wild())))
	wantCompile(t, `let m#1 = (\m#2 -> #11) in case c as m#3 {N -> 7; _ -> (m#1 !Prim.())}`, 4, odd, "c", 1, row(lit(7), rec("N")))
}

// P11.1: Next in a Body goes on with the next row, at each place where it is
// free.
func TestNext(t *testing.T) {
	const goOn = `(m#1 !Prim.())`
	for _, c := range []struct {
		body api.Expr
		want string // nothing, if Next is not free
	}{
		{next(), goOn},
		{app(v("g"), next(), next()), `(g ` + goOn + ` ` + goOn + `)`},
		{lam("a", next()), `(\a -> ` + goOn + `)`},
		{let(next(), bind("a", lit(1)), bind("b", next())), `let a = 1; b = ` + goOn + ` in ` + goOn},
		{cas(next(), "a", conAlt(api.False, "", next()), other(v("a"))), `case ` + goOn + ` as a {Prim.False -> ` + goOn + `; _ -> a}`},
		{cas(v("q"), "a", conAlt("C", "d e", next()), conAlt("B", api.Next, next())), `case q as a {C d e -> ` + goOn + `; B Prim.next -> Prim.next}`},
		{con(api.Box, con(api.Box, next())), `!Prim.Box !Prim.Box ` + goOn},
		{prim(api.Add, next(), lit(1)), `#1 ` + goOn + ` 1`},
		{app(next(), lam(api.Next, next())), `(` + goOn + ` (\Prim.next -> Prim.next))`},
		{lam(api.Next, next()), ``},
		{lam("a "+api.Next, app(v("a"), next())), ``},
		{let(next(), bind(api.Next, lam("a", next()))), ``},
		{cas(lit(1), api.Next, litAlt(1, next()), other(next())), ``},
		{cas(lit(1), "a", conAlt(api.Box, api.Next, next())), ``},
		{app(v("Prim.nex"), v("Prim.next.1"), con(api.Next)), ``},
		{v("x"), ``},
	} {
		if c.want == "" {
			bare := say(c.body)
			wantCompile(t, bare, 1, table(), "x", 1, row(c.body, wild()))
			wantCompile(t, `let y = x in `+bare, 1, table(), "x", 1, row(c.body, pvar("y")), row(next(), num(1)))
			wantCompile(t, `let m#1 = (\m#2 -> #11) in case x as m#3 {1 -> `+bare+`; _ -> (m#1 !Prim.())}`, 4, table(), "x", 1, row(c.body, num(1)))
			continue
		}
		wantCompile(t, `let m#1 = (\m#2 -> #11) in `+c.want, 3, table(), "x", 1, row(c.body, wild()))
		wantCompile(t, `let m#1 = (\m#2 -> 8) in let y = x in `+c.want, 3, table(), "x", 1, row(c.body, pvar("y")), row(lit(8), wild()), row(lit(9), wild()))
		wantCompile(t, `let m#1 = (\m#2 -> #11) in case x as m#3 {1 -> `+c.want+`; _ -> (m#1 !Prim.())}`, 4, table(), "x", 1, row(c.body, num(1)))
	}
	// Where a pattern binds Next, it still is replaced.
	wantCompile(t, `let m#1 = (\m#2 -> #11) in let Prim.next = x in (m#1 !Prim.())`, 3, table(), "x", 1, row(next(), pvar(api.Next)))
	// Each row has a continuation of its own.
	wantCompile(t, `let m#1 = (\m#2 -> let m#3 = (\m#4 -> let y = x in y) in (m#3 !Prim.())) in case x as m#5 {1 -> (m#1 !Prim.()); _ -> (m#1 !Prim.())}`, 6,
		table(), "x", 1, row(next(), num(1)), row(next(), wild()), row(v("y"), pvar("y")))
}

// P11.1: of several constructors with one name, and of several Labels with one
// Name and Con, the first one counts.
func TestFirstOnes(t *testing.T) {
	tab := api.Table{
		Cons:   []api.Cons{{Name: "K", Arity: 1, Family: 1}, {Name: "K", Arity: 2, Family: 2}, {Name: "L", Arity: 2, Tag: 1, Family: 2}, {Name: "L", Arity: 1, Family: 1}, {Name: "Prim.(,)", Arity: 2, Family: 2}, {Name: "Prim.(,)", Arity: 2, Family: 1}},
		Labels: []api.Label{{Name: "k", Con: "L", Place: 1}, {Name: "k", Con: "K", Place: 0}, {Name: "k", Con: "L", Place: 0}, {Name: "k", Con: "K", Place: 1}, {Name: "j", Con: "M"}},
	}
	wantCompile(t, `case c as m#1 {K m#2 -> 7}`, 3, tab, "c", 1, row(lit(7), pcon("K", wild())))
	wantCompile(t, `case c as m#1 {K m#2 -> let y = m#2 in 7}`, 3, tab, "c", 1, row(lit(7), rec("K", field("k", pvar("y")))))
	wantCompile(t, `let m#1 = (\m#2 -> #11) in case c as m#3 {L m#4 m#5 -> let y = m#5 in 7; _ -> (m#1 !Prim.())}`, 6, tab, "c", 1, row(lit(7), rec("L", field("k", pvar("y")))))
	wantCompile(t, `let m#1 = (\m#2 -> #11) in case c as m#3 {Prim.(,) m#4 m#5 -> 7; _ -> (m#1 !Prim.())}`, 6, tab, "c", 1, row(lit(7), tup(wild(), wild())))
	wantErrArg(t, "the second K", tab, []string{"c"}, 1, row(lit(7), pcon("K", wild(), wild())))
	wantErrArg(t, "the second L", tab, []string{"c"}, 1, row(lit(7), pcon("L", wild())))
	wantErrArg(t, "a Label of another one", tab, []string{"c"}, 1, row(lit(7), rec("L", field("j", wild()))))
}

// What a node has besides what makes it a pattern is not looked at.
func TestOtherFields(t *testing.T) {
	for _, p := range []api.Node{wild(), pvar("y"), num(1), pcon("B", wild()), tup(wild(), num(2)), list(num(3)), list(), as("y", wild()), rec("R", field("x", num(4)))} {
		q := p
		q.Line, q.Col = 3, 4
		switch p.Kind {
		case api.PWild, api.PInt, api.PTup, api.PList:
			q.Name = "U"
		}
		if p.Kind != api.PInt {
			q.N = 5
		}
		e, n, errno := refCompile(table(), []string{"c"}, 1, row(lit(7), p))
		wantCompile(t, say(e), n, table(), "c", 1, row(lit(7), q))
		if errno != api.OK {
			t.Error(sayNode(p), errno)
		}
	}
}
