package occur_test

import (
	"testing"

	"teasel/api"
)

// The chapter's examples.
func TestExamples(t *testing.T) {
	e := app(v("f"), v("x"), lam("y", app(v("f"), v("x"))))
	wantUses(t, e, "f", 2, true)
	wantUses(t, e, "x", 2, true)
	wantUses(t, e, "y", 0, false)
	wantUses(t, app(v("f"), v("x")), "x", 1, false)
	wantUses(t, lam("y", v("x")), "x", 1, true)
	wantLive(t, "0 1", v("a"), bind("a", v("b")), bind("b", lit(1)), bind("c", v("a")))
}

// P13.1: a name in expressions of each Kind.
func TestKinds(t *testing.T) {
	x := v("x")
	for _, c := range []struct {
		e      api.Expr
		times  int
		inside bool
	}{
		{x, 1, false},
		{v("y"), 0, false},
		{v(""), 0, false},
		{v("x1"), 0, false},
		{lit(1), 0, false},
		{lam("y", lit(1)), 0, false},
		{lam("y", x), 1, true},
		{lam("y z", app(x, x)), 2, true},
		{app(x, lit(1)), 1, false},
		{app(v("f"), x), 1, false},
		{app(x, x, x), 3, false},
		{let(x, bind("y", lit(1))), 1, false},
		{let(lit(1), bind("y", x)), 1, false},
		{let(x, bind("y", x), bind("z", x)), 3, false},
		{cas(x, "y", other(lit(1))), 1, false},
		{cas(lit(1), "y", other(x)), 1, false},
		{cas(lit(1), "y", litAlt(2, x), litAlt(3, lit(1)), other(x)), 2, false},
		{cas(v("z"), "y", conAlt("Cons", "a b", x), conAlt("Nil", "", x)), 2, false},
		{cas(x, "y", conAlt("Cons", "a b", app(x, x)), other(x)), 4, false},
		{con("Nil"), 0, false},
		{con("Cons", x, x), 2, false},
		{con("Cons", lit(1), x), 1, false},
		{prim(api.Get), 0, false},
		{prim(api.Put, x), 1, false},
		{prim(api.Add, lit(1), x), 1, false},
		{prim(api.Add, x, x), 2, false},
		// a constructor's name is no Var
		{con("x"), 0, false},
		{cas(lit(1), "y", conAlt("x", "", lit(1))), 0, false},
	} {
		wantUses(t, c.e, "x", c.times, c.inside)
		wantUses(t, lam("w", c.e), "x", c.times, c.times > 0)
		wantUses(t, app(c.e, c.e), "x", 2*c.times, c.inside)
		wantUses(t, c.e, "w", 0, false)
	}
}

// Names that are bound around a Var, by each sort of binder, in what is its scope
// and beside it.
func TestBound(t *testing.T) {
	x := v("x")
	for _, c := range []struct {
		e      api.Expr
		times  int
		inside bool
	}{
		{lam("x", x), 0, false},
		{lam("y x z", app(x, x)), 0, false},
		{lam("x", lam("y", x)), 0, false},
		{lam("y", lam("x", x)), 0, false},
		{let(x, bind("x", lit(1))), 0, false},
		{let(x, bind("x", x)), 0, false},
		{let(x, bind("y", x), bind("x", lit(1))), 0, false},
		{let(lam("y", x), bind("x", x)), 0, false},
		{cas(lit(1), "x", other(x)), 0, false},
		{cas(x, "x", other(x)), 1, false},
		{cas(x, "x", litAlt(1, x), other(app(x, x))), 1, false},
		{cas(v("y"), "z", conAlt("Cons", "x y", x)), 0, false},
		{cas(v("y"), "z", conAlt("Cons", "y x", x), other(x)), 1, false},
		{cas(v("y"), "z", conAlt("Cons", "x y", app(x, x)), conAlt("Nil", "", x)), 1, false},
		{cas(x, "z", conAlt("Pair", "x y", x)), 1, false},
		// free in one place, and bound in another one
		{app(x, lam("x", x)), 1, false},
		{app(lam("x", x), x), 1, false},
		{app(lam("x", x), lam("y", x)), 1, true},
		{app(let(x, bind("x", x)), x), 1, false},
		{let(let(x, bind("x", lit(1))), bind("y", x)), 1, false},
		{let(lam("x", x), bind("y", lam("z", x))), 1, true},
		{cas(lam("x", x), "y", other(x)), 1, false},
		{cas(cas(x, "x", other(x)), "y", other(x)), 2, false},
		{con("Pair", cas(lit(1), "x", other(x)), x), 1, false},
	} {
		wantUses(t, c.e, "x", c.times, c.inside)
		wantUses(t, lam("x", c.e), "x", 0, false)
		wantUses(t, let(c.e, bind("x", lit(1))), "x", 0, false)
		wantUses(t, cas(c.e, "x", other(lit(1))), "x", c.times, c.inside)
	}
}

// Vars in no Lam, in one and in several.
func TestInside(t *testing.T) {
	x, y := v("x"), v("y")
	for _, c := range []struct {
		e      api.Expr
		times  int
		inside bool
	}{
		{app(x, x), 2, false},
		{app(x, lam("y", x)), 2, true},
		{app(lam("y", x), x), 2, true},
		{lam("y", lam("z", x)), 1, true},
		{lam("y z", x), 1, true},
		{app(lam("y", y), x), 1, false},
		{app(x, lam("y", y)), 1, false},
		{let(x, bind("f", lam("y", y))), 1, false},
		{let(lit(1), bind("f", lam("y", x))), 1, true},
		{let(app(v("f"), x), bind("f", lam("y", y)), bind("g", lam("x", x))), 1, false},
		{cas(lam("y", x), "z", other(lit(1))), 1, true},
		{cas(lit(1), "z", litAlt(1, x), other(lam("y", y))), 1, false},
		{cas(lit(1), "z", litAlt(1, lit(1)), other(lam("y", x))), 1, true},
		{con("Pair", lam("y", x), lam("y", x)), 2, true},
		{prim(api.Add, app(lam("y", x), x), x), 3, true},
		// in one that binds the same name
		{lam("x", lam("y", x)), 0, false},
		{app(lam("x", x), lam("y", lam("x", x))), 0, false},
	} {
		wantUses(t, c.e, "x", c.times, c.inside)
	}
}
