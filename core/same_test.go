package core_test

import (
	"testing"

	"teasel/api"
	"teasel/core"
)

// wantSame holds what Same answers, from both sides.
func wantSame(t *testing.T, want bool, a, b api.Expr) {
	t.Helper()
	if core.Same(a, b) != want || core.Same(b, a) != want {
		t.Errorf("%s and %s: got %v", say(a), say(b), !want)
	}
}

// each is one or more expressions of each Kind.
func each() []api.Expr {
	return []api.Expr{
		v("x"), v("y"), lit(0), lit(1), lam("x", v("x")), lam("x y", v("x")), app(v("f"), v("x")), app(v("f"), v("x"), lit(1)), let(v("x"), bind("x", lit(1))),
		let(v("x"), bind("x", lit(1)), bind("y", lit(2))), cas(v("x"), "y", other(v("y"))), cas(v("x"), "y", litAlt(0, lit(2)), conAlt("C", "a b", v("a")), other(v("y"))),
		con("C"), con("C", v("x")), con("D", v("x"), lit(2)), prim(api.Get), prim(api.Raise), prim(api.Put, v("x")), prim(api.Add, v("x"), lit(1)), prim(api.Minus, v("x"), lit(1)),
	}
}

// P10.2: Same for each Kind.
func TestSame(t *testing.T) {
	for i, a := range each() {
		for j, b := range each() {
			wantSame(t, i == j, a, b)
			around := within(b)
			for k, c := range within(a) {
				wantSame(t, i == j, c, around[k])
			}
		}
		for _, c := range within(a) {
			for _, d := range within(a) {
				wantSame(t, equal(c, d), c, d)
			}
		}
	}
}

// P10.2: expressions that differ in one field, one child or one alternative
// alone.
func TestDiffer(t *testing.T) {
	whole := cas(let(app(lam("x y", v("x")), lit(3)), bind("p", con("C", lit(1))), bind("q", prim(api.Put, lit(4)))), "n",
		conAlt("C", "a b", v("a")), litAlt(5, lit(6)), other(prim(api.Add, lit(7), lit(8))))
	var places []func(e *api.Expr) *api.Expr // where an expression is in it
	places = append(places, func(e *api.Expr) *api.Expr { return e })
	sub := func(i int, within func(e *api.Expr) *api.Expr) func(e *api.Expr) *api.Expr {
		return func(e *api.Expr) *api.Expr { return &within(e).Subs[i] }
	}
	inBind := func(i int, within func(e *api.Expr) *api.Expr) func(e *api.Expr) *api.Expr {
		return func(e *api.Expr) *api.Expr { return &within(e).Binds[i].Expr }
	}
	inAlt := func(i int) func(e *api.Expr) *api.Expr {
		return func(e *api.Expr) *api.Expr { return &e.Alts[i].Body }
	}
	top := places[0]
	places = append(places, sub(0, top), sub(0, sub(0, top)), sub(0, sub(0, sub(0, top))), sub(0, sub(0, sub(0, sub(0, top)))), sub(1, sub(0, sub(0, top))),
		inBind(0, sub(0, top)), inBind(1, sub(0, top)), sub(0, inBind(0, sub(0, top))), sub(0, inBind(1, sub(0, top))), inAlt(0), inAlt(1), inAlt(2), sub(0, inAlt(2)), sub(1, inAlt(2)))
	changes := []func(e *api.Expr){
		func(e *api.Expr) { e.Kind++ },
		func(e *api.Expr) { e.Name += "'" },
		func(e *api.Expr) { e.N ^= 1 << 40 },
		func(e *api.Expr) { e.Op++ },
		func(e *api.Expr) { e.Names = append(e.Names, "z") },
		func(e *api.Expr) { e.Subs = append(e.Subs, lit(0)) },
		func(e *api.Expr) { e.Binds = append(e.Binds, bind("z", lit(0))) },
		func(e *api.Expr) { e.Alts = append(e.Alts, other(lit(0))) },
	}
	for i, place := range places {
		for j, change := range changes {
			e := clone(whole)
			wantSame(t, true, whole, e)
			change(place(&e))
			if core.Same(whole, e) || core.Same(e, whole) {
				t.Error("place", i, "change", j)
			}
		}
	}
	for i, change := range []func(e *api.Expr){
		func(e *api.Expr) { e.Alts[0].Kind = api.LitAlt }, func(e *api.Expr) { e.Alts[0].Name = "D" }, func(e *api.Expr) { e.Alts[1].N = 6 }, func(e *api.Expr) { e.Alts[0].N = 1 },
		func(e *api.Expr) { e.Alts[0].Names[1] = "c" }, func(e *api.Expr) { e.Alts[0].Names = e.Alts[0].Names[:1] }, func(e *api.Expr) { e.Alts[0].Names[0], e.Alts[0].Names[1] = "b", "a" },
		func(e *api.Expr) { e.Alts = e.Alts[:2] }, func(e *api.Expr) { e.Alts = e.Alts[1:] }, func(e *api.Expr) { e.Alts[0], e.Alts[1] = e.Alts[1], e.Alts[0] },
		func(e *api.Expr) { e.Alts[2].Kind = 0 }, func(e *api.Expr) { e.Subs[0].Binds[0].Name = "r" }, func(e *api.Expr) { e.Subs[0].Binds[1].Name = "p" },
		func(e *api.Expr) { b := e.Subs[0].Binds; b[0], b[1] = b[1], b[0] }, func(e *api.Expr) { e.Subs[0].Binds = e.Subs[0].Binds[:1] },
		func(e *api.Expr) { e.Subs[0].Subs[0].Subs[0].Names[1] = "z" }, func(e *api.Expr) { n := e.Subs[0].Subs[0].Subs[0].Names; n[0], n[1] = n[1], n[0] },
		func(e *api.Expr) { s := e.Subs[0].Subs[0].Subs; s[0], s[1] = s[1], s[0] }, func(e *api.Expr) { e.Subs[0].Subs[0].Subs = e.Subs[0].Subs[0].Subs[:1] },
		func(e *api.Expr) { e.Subs = nil }, func(e *api.Expr) { e.Alts = nil }, func(e *api.Expr) { e.Subs[0].Binds = nil }, func(e *api.Expr) { e.Subs[0].Subs[0].Subs[0].Names = nil },
	} {
		e := clone(whole)
		change(&e)
		if core.Same(whole, e) || core.Same(e, whole) {
			t.Error("change", i)
		}
	}
}

// P10.2: names that are bound have no other meaning to Same, and an empty slice
// may be nil or not.
func TestSameAsWritten(t *testing.T) {
	wantSame(t, false, lam("x", v("x")), lam("y", v("y")))
	wantSame(t, false, let(lit(1), bind("a", lit(1)), bind("b", lit(2))), let(lit(1), bind("b", lit(2)), bind("a", lit(1))))
	wantSame(t, false, lam("x", lam("y", lit(1))), lam("x y", lit(1)))
	empty := api.Expr{Kind: api.Lit, Names: []string{}, Subs: []api.Expr{}, Binds: []api.Bind{}, Alts: []api.Alt{}}
	wantSame(t, true, empty, lit(0))
	wantSame(t, true, app(empty, v("x")), app(lit(0), v("x")))
	a, b := other(lit(1)), other(empty)
	a.Names, a.Body = []string{}, lit(0)
	wantSame(t, true, cas(empty, "x", a), cas(lit(0), "x", b))
	wantSame(t, true, api.Expr{}, api.Expr{})
}
