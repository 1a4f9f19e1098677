package stg_test

import (
	"math"
	"slices"
	"strings"
	"testing"

	"teasel/api"
	"teasel/stg"
)

// atoms are numbers and names, in one text with blanks between them.
func atoms(text string) []api.Atom {
	var all []api.Atom
	for _, word := range strings.Fields(text) {
		if n := strings.Index("0123456789", word); n >= 0 && len(word) == 1 {
			all = append(all, api.Atom{N: n})
		} else {
			all = append(all, api.Atom{Name: word})
		}
	}
	return all
}

func sAtom(text string) api.Stg { return api.Stg{Kind: api.SAtom, Args: atoms(text)} }

func sCall(name, args string) api.Stg {
	return api.Stg{Kind: api.SCall, Name: name, Args: atoms(args)}
}

func sCon(name, args string) api.Stg {
	return api.Stg{Kind: api.SCon, Name: name, Args: atoms(args)}
}

func sPrim(op int, args string) api.Stg { return api.Stg{Kind: api.SPrim, Op: op, Args: atoms(args)} }

func sCase(of api.Stg, name string, alts ...api.SAlt) api.Stg {
	return api.Stg{Kind: api.SCase, Name: name, Subs: []api.Stg{of}, Alts: alts}
}

func sAlt(kind int, name string, n int, names string, body api.Stg) api.SAlt {
	return api.SAlt{Kind: kind, Name: name, N: n, Names: strings.Fields(names), Body: body}
}

func sOther(body api.Stg) api.SAlt { return api.SAlt{Kind: api.Default, Body: body} }

func fun(name, params string, body ...api.Stg) api.SBind {
	return api.SBind{Name: name, Kind: api.SFun, Params: strings.Fields(params), Body: body}
}

func thunk(name string, body ...api.Stg) api.SBind {
	return api.SBind{Name: name, Kind: api.SThunk, Update: true, Body: body}
}

func cell(name, con, args string) api.SBind {
	return api.SBind{Name: name, Kind: api.SCell, Con: con, Args: atoms(args)}
}

// wantBind holds what Core makes of a bind: at the top, and in an SRec.
func wantBind(t *testing.T, b api.SBind, want api.Expr) {
	t.Helper()
	q := stg.Core(api.SProgram{Binds: []api.SBind{b, thunk("last", rec([]api.SBind{b, b}, sAtom("9")))}})
	same := bind(b.Name, want)
	if p := (api.Program{Binds: []api.Bind{same, bind("last", let(lit(9), same, same))}}); !equalPrograms(q, p) {
		t.Errorf("%s: got %s, want %s", saySBinds([]api.SBind{b}), sayProgram(q), sayProgram(p))
	}
}

// wantCore holds what Core makes of an expression: in each place in which one may
// stand.
func wantCore(t *testing.T, e api.Stg, want api.Expr) {
	t.Helper()
	wantBind(t, thunk("x", e), want)
	wantBind(t, fun("x", "", e), want)
	wantBind(t, fun("x", "p q", e), lam("p q", want))
	wantBind(t, thunk("x", rec([]api.SBind{thunk("y", e), fun("z", "p", e)}, e)), let(want, bind("y", want), bind("z", lam("p", want))))
	wantBind(t, thunk("x", sCase(e, "k", sAlt(api.LitAlt, "", 3, "", e), sOther(e))), cas(want, "k", litAlt(3, want), other(want)))
	wantBind(t, thunk("x", sCase(e, "k", sAlt(api.ConAlt, "Cons", 0, "h r", e))), cas(want, "k", conAlt("Cons", "h r", want)))
}

// P16.2: each Kind of expression.
func TestCoreOf(t *testing.T) {
	x, y := v("x"), v("y")
	wantCore(t, sAtom("x"), x)
	wantCore(t, sAtom("5"), lit(5))
	wantCore(t, sAtom("0"), lit(0))
	wantCore(t, api.Stg{Kind: api.SAtom, Args: []api.Atom{{N: math.MinInt}}}, lit(math.MinInt))
	wantCore(t, sCall("f", ""), v("f"))
	wantCore(t, sCall("f", "x"), app(v("f"), x))
	wantCore(t, sCall("f", "x 3 y x"), app(v("f"), x, lit(3), y, x))
	wantCore(t, sCon("Nil", ""), con("Nil"))
	wantCore(t, sCon("Pair", "x 2"), pair(x, lit(2)))
	wantCore(t, sPrim(api.Get, ""), get())
	wantCore(t, sPrim(api.Raise, ""), raise())
	wantCore(t, sPrim(api.Put, "x"), prim(api.Put, x))
	for op := api.Add; op <= api.Le; op++ {
		wantCore(t, sPrim(op, "1 y"), prim(op, lit(1), y))
	}
	wantCore(t, sCase(sAtom("x"), "k", sOther(sAtom("y"))), cas(x, "k", other(y)))
	wantCore(t, sCase(sCall("x", "2"), "k", sAlt(api.LitAlt, "", -4, "", sAtom("1")), sAlt(api.LitAlt, "", 0, "", sAtom("2")), sOther(sAtom("k"))), cas(app(x, lit(2)), "k", litAlt(-4, lit(1)), litAlt(0, lit(2)), other(v("k"))))
	wantCore(t, sCase(sAtom("x"), "k", sAlt(api.ConAlt, "Nil", 0, "", sAtom("y")), sAlt(api.ConAlt, "Cons", 0, "h r", sCall("h", "r"))), cas(x, "k", conAlt("Nil", "", y), conAlt("Cons", "h r", app(v("h"), v("r")))))
	wantCore(t, rec([]api.SBind{thunk("w", sAtom("x"))}, sAtom("y")), let1("w", x, y))
	wantCore(t, rec([]api.SBind{fun("f", "p q", sCall("p", "q f")), cell("c", "Pair", "c 3"), thunk("t", sPrim(api.Get, ""))}, sCall("f", "t c")),
		let(app(v("f"), v("t"), v("c")), bind("f", lam("p q", app(v("p"), v("q"), v("f")))), bind("c", pair(v("c"), lit(3))), bind("t", get())))
	// as many as there are
	wantCore(t, sCase(sAtom("x"), "k"), cas(x, "k"))
	wantCore(t, rec(nil, sAtom("x")), let(x))
	wantCore(t, sCall("", "x"), app(v(""), x))
	wantCore(t, sCon("", "x x x"), con("", x, x, x))
	wantCore(t, sPrim(99, "x x x"), prim(99, x, x, x))
	wantCore(t, sPrim(-1, ""), prim(-1))
	// a name goes ahead of a number
	wantCore(t, api.Stg{Kind: api.SAtom, Args: []api.Atom{{Name: "x", N: 4}}}, x)
	wantCore(t, api.Stg{Kind: api.SCall, Name: "f", Args: []api.Atom{{Name: "x", N: 4}, {N: -4}}}, app(v("f"), x, lit(-4)))
}

// P16.2: each Kind of bind.
func TestCoreOfBinds(t *testing.T) {
	body := sCall("f", "p")
	call := app(v("f"), v("p"))
	wantBind(t, fun("x", "p", body), lam("p", call))
	wantBind(t, fun("x", "p q r", body), lam("p q r", call))
	wantBind(t, fun("x", "", body), call)
	wantBind(t, thunk("x", body), call)
	wantBind(t, cell("x", "Nil", ""), con("Nil"))
	wantBind(t, cell("x", "Pair", "p 7"), pair(v("p"), lit(7)))
	// Free and Update make no difference
	for _, b := range []api.SBind{fun("x", "p", body), thunk("x", body)} {
		for range 2 {
			b.Update = !b.Update
			for _, free := range [][]string{nil, {"f"}, {"f", "p"}, {"other"}} {
				b.Free = free
				wantBind(t, b, map[int]api.Expr{api.SFun: lam("p", call), api.SThunk: call}[b.Kind])
			}
		}
	}
	// the order of binds, the same name more than once, no name
	p := stg.Core(api.SProgram{Cons: cons(), Binds: []api.SBind{cell("b", "Nil", ""), cell("a", "Nil", ""), cell("b", "Pair", "a 1"), thunk("", sAtom("a"))}})
	if want := program(bind("b", con("Nil")), bind("a", con("Nil")), bind("b", pair(v("a"), lit(1))), bind("", v("a"))); !equalPrograms(p, want) {
		t.Error(sayProgram(p))
	}
}

// P16.2: what lacks a part, and Kinds that there are not.
func TestCoreOfOthers(t *testing.T) {
	for _, kind := range []int{0, 7, 8, 9, -1, math.MaxInt, math.MinInt} {
		wantCore(t, api.Stg{Kind: kind}, lit(0))
		wantCore(t, api.Stg{Kind: kind, Name: "f", Op: 1, Args: atoms("x 3"), Subs: []api.Stg{sAtom("x")}, Binds: []api.SBind{thunk("y", sAtom("x"))}, Alts: []api.SAlt{sOther(sAtom("x"))}}, lit(0))
	}
	wantCore(t, api.Stg{Kind: api.SAtom}, lit(0))
	wantCore(t, api.Stg{Kind: api.SAtom, Args: []api.Atom{}}, lit(0))
	wantCore(t, api.Stg{Kind: api.SCase}, lit(0))
	wantCore(t, api.Stg{Kind: api.SCase, Name: "x"}, lit(0))
	wantCore(t, api.Stg{Kind: api.SCase, Name: "x", Alts: []api.SAlt{sOther(sAtom("x"))}}, lit(0))
	wantCore(t, api.Stg{Kind: api.SRec}, lit(0))
	wantCore(t, api.Stg{Kind: api.SRec, Binds: []api.SBind{thunk("y", sAtom("x"))}}, lit(0))
	// in what is whole
	wantCore(t, sCase(api.Stg{Kind: api.SCase}, "k", sOther(api.Stg{Kind: api.SRec})), cas(lit(0), "k", other(lit(0))))
	wantCore(t, sCase(api.Stg{}, "k", api.SAlt{}, sAlt(7, "A", 3, "p q", sAtom("p"))), cas(lit(0), "k", api.Alt{Body: lit(0)}, api.Alt{Kind: 7, Name: "A", N: 3, Names: []string{"p", "q"}, Body: v("p")}))
	wantCore(t, rec([]api.SBind{{}, {Name: "y"}}, api.Stg{}), let(lit(0), bind("", lit(0)), bind("y", lit(0))))
	for _, kind := range []int{0, 4, 5, 9, -1, math.MaxInt, math.MinInt} {
		wantBind(t, api.SBind{Name: "x", Kind: kind}, lit(0))
		wantBind(t, api.SBind{Name: "x", Kind: kind, Free: []string{"a"}, Params: []string{"p"}, Update: true, Con: "Nil", Args: atoms("x 1"), Body: []api.Stg{sAtom("x")}}, lit(0))
	}
	wantBind(t, thunk("x"), lit(0))
	wantBind(t, fun("x", ""), lit(0))
	wantBind(t, fun("x", "p q"), lit(0))
	wantBind(t, fun("x", "p", api.Stg{}), lam("p", lit(0)))
	wantBind(t, thunk("x", api.Stg{}), lit(0))
	wantBind(t, cell("x", "", ""), con(""))
	if p := stg.Core(api.SProgram{}); len(p.Cons)+len(p.Binds) > 0 {
		t.Error(p)
	}
	if p := stg.Core(api.SProgram{Cons: []api.Cons{{}, {Name: "x", Arity: -1}}}); !slices.Equal(p.Cons, []api.Cons{{}, {Name: "x", Arity: -1}}) || len(p.Binds) > 0 {
		t.Error(p)
	}
}

// anyStg is an expression of any Kinds, parts of which are missing.
func (m *maker) anyStg(levels int) api.Stg {
	e := api.Stg{Kind: 1 + m.Intn(6)}
	if levels <= 1 && e.Kind > api.SPrim {
		e.Kind -= 4
	}
	if m.Intn(20) == 0 {
		return api.Stg{Kind: m.Intn(9) - 1}
	}
	switch e.Kind {
	case api.SAtom:
		e.Args = m.anyAtoms(1)
	case api.SCall, api.SCon:
		e.Name, e.Args = m.fresh(), m.anyAtoms(m.Intn(4))
	case api.SPrim:
		e.Op, e.Args = m.Intn(13), m.anyAtoms(m.Intn(3))
	case api.SCase:
		e.Name, e.Subs = m.fresh(), []api.Stg{m.anyStg(levels - 1)}
		for range m.Intn(4) {
			e.Alts = append(e.Alts, []api.SAlt{sAlt(api.ConAlt, m.fresh(), 0, strings.Join(m.names(m.Intn(3)), " "), m.anyStg(levels-1)), sAlt(api.LitAlt, "", m.Intn(9), "", m.anyStg(levels-1)), sOther(m.anyStg(levels - 1))}[m.Intn(3)])
		}
	case api.SRec:
		e.Binds, e.Subs = m.anyBinds(m.Intn(4), levels-1), []api.Stg{m.anyStg(levels - 1)}
	}
	if m.Intn(20) == 0 {
		e.Subs, e.Args = nil, nil
	}
	return e
}

func (m *maker) anyAtoms(count int) []api.Atom {
	var all []api.Atom
	for range count {
		all = append(all, []api.Atom{{N: m.Intn(9) - 4}, {Name: m.fresh()}}[m.Intn(2)])
	}
	return all
}

func (m *maker) anyBinds(count, levels int) []api.SBind {
	var binds []api.SBind
	for range count {
		b := api.SBind{Name: m.fresh(), Kind: 1 + m.Intn(3)}
		if m.Intn(20) == 0 {
			b.Kind = m.Intn(6) - 1
		}
		if m.Intn(20) > 0 && b.Kind != api.SCell {
			b.Body, b.Free, b.Update = []api.Stg{m.anyStg(levels)}, m.names(m.Intn(3)), m.Intn(2) == 0
		}
		switch b.Kind {
		case api.SFun:
			b.Params = m.names(m.Intn(4))
		case api.SCell:
			b.Con, b.Args = m.fresh(), m.anyAtoms(m.Intn(4))
		}
		binds = append(binds, b)
	}
	return binds
}

// P16.2: any programs, against a second way.
func TestRandomCore(t *testing.T) {
	m := newMaker(3)
	counts := map[string]int{}
	for i := range 20000 {
		q := api.SProgram{Cons: cons()[:m.Intn(8)], Binds: m.anyBinds(m.Intn(5), 1+i%6)}
		countBinds(q.Binds, counts)
		if p := stg.Core(q); !equalPrograms(p, refCore(q)) {
			t.Fatalf("%s:\ngot  %s\nwant %s", saySBinds(q.Binds), sayProgram(p), sayProgram(refCore(q)))
		}
	}
	t.Log(counts)
	for _, what := range []string{"kind 1", "kind 2", "kind 3", "kind 4", "kind 5", "kind 6", "kind 0", "kind 7", "fun", "thunk", "once", "cell"} {
		if counts[what] < 200 {
			t.Error(what, counts[what])
		}
	}
}
