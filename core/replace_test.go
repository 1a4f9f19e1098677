package core_test

import (
	"testing"

	"teasel/api"
	"teasel/core"
)

// wantReplaced holds what stands in place of x.
func wantReplaced(t *testing.T, e, by, want api.Expr) {
	t.Helper()
	if got := core.Replace(e, "x", by); !equal(got, want) {
		t.Errorf("%s, %s for x: got %s, want %s", say(e), say(by), say(got), say(want))
	}
}

// P10.4: Replace for each Kind, below a binder of the name and beside it.
func TestReplace(t *testing.T) {
	x, y, one := v("x"), v("y"), lit(1)
	for _, z := range []api.Expr{v("z"), lit(9), app(v("f"), v("x")), lam("x y", v("x")), let(v("x"), bind("x", v("y"))), cas(v("x"), "y", conAlt("C", "x", v("x")), other(v("y")))} {
		for _, c := range []struct{ e, want api.Expr }{
			{x, z}, {y, y}, {one, one}, {con("x"), con("x")}, {con("x", x), con("x", z)}, {con("C", x, y, x), con("C", z, y, z)}, {prim(api.Get), prim(api.Get)},
			{prim(api.Put, x), prim(api.Put, z)}, {prim(api.Lt, y, x), prim(api.Lt, y, z)}, {app(x, y, x), app(z, y, z)}, {app(y, app(x, y)), app(y, app(z, y))},
			{lam("y", x), lam("y", z)}, {lam("x", x), lam("x", x)}, {lam("a x b", app(x, y)), lam("a x b", app(x, y))}, {lam("", x), lam("", z)}, {lam("a", lam("b", x)), lam("a", lam("b", z))},
			{app(lam("x", x), x), app(lam("x", x), z)}, {app(x, lam("x", x)), app(z, lam("x", x))}, {lam("a", app(lam("x", x), x)), lam("a", app(lam("x", x), z))},
			{let(x, bind("a", x), bind("b", y)), let(z, bind("a", z), bind("b", y))}, {let(x, bind("x", x)), let(x, bind("x", x))}, {let(x), let(z)},
			{let(x, bind("a", x), bind("x", one)), let(x, bind("a", x), bind("x", one))}, {let(x, bind("x", one), bind("a", x)), let(x, bind("x", one), bind("a", x))},
			{let(let(x, bind("x", x)), bind("a", x)), let(let(x, bind("x", x)), bind("a", z))}, {app(let(x, bind("x", x)), x), app(let(x, bind("x", x)), z)},
			{cas(x, "a", litAlt(1, x), other(x)), cas(z, "a", litAlt(1, z), other(z))}, {cas(x, "x", litAlt(1, x), other(x)), cas(z, "x", litAlt(1, x), other(x))},
			{cas(x, "a", conAlt("C", "b x", x), conAlt("x", "b", x), other(x)), cas(z, "a", conAlt("C", "b x", x), conAlt("x", "b", z), other(z))},
			{cas(x, "x", conAlt("C", "b", x)), cas(z, "x", conAlt("C", "b", x))}, {cas(x, "a"), cas(z, "a")}, {cas(cas(x, "x", other(x)), "a", other(x)), cas(cas(z, "x", other(x)), "a", other(z))},
			{app(cas(one, "x", conAlt("C", "x", x)), x), app(cas(one, "x", conAlt("C", "x", x)), z)}, {cas(one, "a", other(x), conAlt("C", "x", x)), cas(one, "a", other(z), conAlt("C", "x", x))},
		} {
			wantReplaced(t, c.e, z, c.want)
		}
		around := within(z)
		for i, e := range within(x) {
			wantReplaced(t, e, z, around[i])
			wantReplaced(t, lam("x", e), z, lam("x", e))
			wantReplaced(t, let(e, bind("x", e)), z, let(e, bind("x", e)))
			wantReplaced(t, cas(e, "x", conAlt("C", "a", e), other(e)), z, cas(around[i], "x", conAlt("C", "a", e), other(e)))
			wantReplaced(t, cas(e, "a", conAlt("C", "x", e), other(e)), z, cas(around[i], "a", conAlt("C", "x", e), other(around[i])))
		}
	}
}

// P10.4: names that are free in by may be bound where it comes to stand.
func TestCapture(t *testing.T) {
	x, z := v("x"), v("z")
	wantReplaced(t, lam("z", app(x, z)), z, lam("z", app(z, z)))
	wantReplaced(t, let(x, bind("z", x)), app(z, z), let(app(z, z), bind("z", app(z, z))))
	wantReplaced(t, cas(x, "z", conAlt("C", "w", x)), app(z, v("w")), cas(app(z, v("w")), "z", conAlt("C", "w", app(z, v("w")))))
	// What is put is not looked at again.
	wantReplaced(t, app(x, lam("y", x)), app(x, x), app(app(x, x), lam("y", app(x, x))))
	wantReplaced(t, x, lam("y", x), lam("y", x))
}

// P10.6: replacing a name that is not free changes nothing.
func TestReplaceNothing(t *testing.T) {
	for _, e := range each() {
		for _, f := range within(e) {
			for _, name := range []string{"none", "", "C", "X", "x ", "xx"} {
				if got := core.Replace(f, name, v("q")); !equal(got, f) {
					t.Errorf("%s: %s", say(f), say(got))
				}
			}
			for _, name := range core.Free(f) {
				if got := core.Replace(f, name, v(name)); !equal(got, f) {
					t.Errorf("%s: %s", say(f), say(got))
				}
				if got := core.Replace(f, name, v("q")); equal(got, f) {
					t.Errorf("%s: %s is free", say(f), name)
				}
			}
			wantReplaced(t, lam("x", f), v("q"), lam("x", f))
		}
	}
	wantReplaced(t, api.Expr{Kind: api.Lam, Names: []string{""}, Subs: []api.Expr{v("x")}}, v("q"), api.Expr{Kind: api.Lam, Names: []string{""}, Subs: []api.Expr{v("q")}})
	if got := core.Replace(app(v(""), v("x")), "", v("q")); !equal(got, app(v("q"), v("x"))) {
		t.Error(say(got))
	}
}
