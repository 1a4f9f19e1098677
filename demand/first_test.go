package demand_test

import (
	"testing"

	"teasel/api"
)

// P15.1: what demands nothing, or itself.
func TestFirstLeaves(t *testing.T) {
	x, y := v("x"), v("y")
	first(t, x, "x")
	first(t, v(""), "")
	first(t, lit(0), "")
	first(t, lit(-7), "")
	first(t, lam("a", x), "")
	first(t, lam("a b", add(x, v("a"))), "")
	first(t, con("Nil"), "")
	first(t, pair(x, y), "")
	first(t, con("Cons", add(x, y), x), "")
	for _, kind := range []int{-1, 0, 9} {
		first(t, api.Expr{Kind: kind, Name: "x"}, "")
	}
}

// P15.1: Prims: the second argument counts behind a first one that is simple.
func TestFirstPrims(t *testing.T) {
	x, y, z := v("x"), v("y"), v("z")
	two := []int{api.Add, api.Minus, api.Mul, api.Quot, api.Rem, api.Eq, api.Lt, api.Le}
	for _, op := range two {
		isSimple := op != api.Quot && op != api.Rem
		first(t, prim(op, x, y), "x y")
		first(t, prim(op, y, x), "y x")
		first(t, prim(op, x, x), "x")
		first(t, prim(op, lit(1), y), "y")
		first(t, prim(op, x, lit(1)), "x")
		first(t, prim(op, lit(1), lit(2)), "")
		behind := "x y"
		if isSimple {
			behind = "x y z"
		}
		first(t, add(prim(op, x, y), z), behind)
		first(t, prim(op, add(x, y), z), "x y z")
		first(t, prim(op, x, prim(op, y, z)), "x y z")
		first(t, add(add(lit(2), prim(op, x, y)), z), behind)
		first(t, add(add(x, prim(op, y, x)), z), behind)
		// what is not simple
		for _, e := range []api.Expr{get(), raise(), con("Nil"), lam("a", x), prim(api.Put, lit(1)), app(lam("a", x), y), let1("a", x, lit(1)), cas(lit(1), "a", other(lit(1)))} {
			first(t, prim(op, e, z), "")
			first(t, prim(op, z, e), "z")
			first(t, prim(op, add(x, e), z), "x")
			first(t, prim(op, add(e, x), z), "")
			first(t, prim(op, add(x, add(y, e)), z), "x y")
		}
		first(t, prim(op, prim(api.Put, x), y), "x")
		first(t, prim(op, app(x, y), z), "x")
		first(t, prim(op, let1("a", y, x), z), "x")
		first(t, prim(op, cas(x, "a", other(y)), z), "x y")
	}
	first(t, prim(api.Put, x), "x")
	first(t, prim(api.Put, add(x, y)), "x y")
	first(t, prim(api.Put, prim(api.Quot, x, y)), "x y")
	first(t, prim(api.Put, get()), "")
	first(t, get(), "")
	first(t, raise(), "")
	// once, where each stands first
	first(t, add(add(x, y), add(y, add(z, x))), "x y z")
	first(t, add(add(z, z), add(z, z)), "z")
	// the chapter's example
	first(t, prim(api.Quot, get(), y), "")
}

// P15.1: Apps, by the order of the function.
func TestFirstApps(t *testing.T) {
	f, g, x, y, z, one := v("f"), v("g"), v("x"), v("y"), v("z"), lit(1)
	ways := func(numbers ...int) []api.Order { return []api.Order{order("h", 1, 0), order("f", 2, numbers...)} }
	// of what has none
	first(t, app(g, x, y), "g", ways(0, 1)...)
	first(t, app(f, x, y), "f")
	first(t, app(f, x, y), "f", order("", 2, 0, 1), order("ff", 2, 0, 1), order("F", 2, 0, 1))
	// of what is no Var
	first(t, app(app(f, x, y), z), "x y", ways(0, 1)...)
	first(t, app(app(f, x), y), "f", ways(0, 1)...)
	first(t, app(app(g, x), y), "g", ways(0, 1)...)
	first(t, app(lam("f", f), x, y), "", ways(0, 1)...)
	first(t, app(con("f", x, y), x, y), "", ways(0, 1)...)
	first(t, app(add(x, y), z, z), "x y", ways(0, 1)...)
	first(t, app(cas(x, "f", other(y)), z, z), "x y", ways(0, 1)...)
	first(t, app(api.Expr{Kind: api.Prim, Op: api.Get, Name: "f"}, x, y), "", ways(0, 1)...)
	// the order's numbers
	first(t, app(f, x, y), "", ways()...)
	first(t, app(f, x, y), "x", ways(0)...)
	first(t, app(f, x, y), "y", ways(1)...)
	first(t, app(f, x, y), "x y", ways(0, 1)...)
	first(t, app(f, x, y), "y x", ways(1, 0)...)
	first(t, app(f, x, x), "x", ways(1, 0)...)
	first(t, app(f, x, y), "x y", ways(0, 0, 1, 0, 1)...)
	first(t, app(f, f, f), "f", ways(0, 1)...)
	// fewer arguments, and more
	first(t, app(f, x), "f", ways(0, 1)...)
	first(t, app(f, x), "f", ways(0)...)
	first(t, app(f, x), "f", ways()...)
	first(t, app(f, x, y, z), "x y", ways(0, 1)...)
	first(t, app(f, x, y, z), "z x", ways(2, 0, 3, 1)...)
	first(t, app(f, x, y, z), "", ways(3, 0, 1)...)
	first(t, app(f, x, y), "x", ways(0, 2, 1)...)
	first(t, app(f, x, y), "x", ways(0, -1, 1)...)
	first(t, app(f, x, y), "", ways(-1, 0, 1)...)
	first(t, app(f, x, y), "y", ways(1, 1<<62, 0)...)
	first(t, app(f, x, y), "y", ways(1, -1<<63, 0)...)
	// any Arity
	first(t, app(f, x), "x", order("f", 0, 0))
	first(t, app(f, x), "x", order("f", -3, 0))
	first(t, app(f, x), "f", order("f", 1<<62, 0))
	first(t, app(f, x, y), "y", order("f", 1, 1, 2, 0))
	// arguments that are not simple
	first(t, app(f, get(), y), "", ways(0, 1)...)
	first(t, app(f, x, get()), "x", ways(0, 1)...)
	first(t, app(f, one, y), "y", ways(0, 1)...)
	first(t, app(f, add(x, z), y), "x z y", ways(0, 1)...)
	first(t, app(f, prim(api.Rem, x, z), y), "x z", ways(0, 1)...)
	first(t, app(f, x, prim(api.Rem, y, z)), "x y z", ways(0, 1)...)
	first(t, app(f, pair(x, z), y), "", ways(0, 1)...)
	first(t, app(f, lam("a", x), y), "", ways(0, 1)...)
	first(t, app(f, app(f, x, y), z), "x y", ways(0, 1)...)
	first(t, app(f, app(f, x, y), z), "z y x", ways(1, 0)...)
	first(t, app(f, app(g, x, y), z), "g", ways(0, 1)...)
	first(t, add(app(f, x, y), z), "x y", ways(0, 1)...)
	first(t, add(z, app(f, x, y)), "z x y", ways(0, 1)...)
	first(t, app(f, get(), y), "y", ways(1, 0)...)
	first(t, app(f, get(), y), "", ways(0, 0, 1)...)
	// several orders of the same name
	first(t, app(f, x, y), "y", order("f", 2, 1), order("f", 2, 0))
	first(t, app(f, x, y), "", order("f", 1), order("f", 2, 0))
	first(t, app(f, x, y), "f", order("f", 3, 0), order("f", 2, 0))
	// a name alone is no call
	first(t, f, "f", ways(0, 1)...)
	first(t, pair(app(f, x, y), x), "", ways(0, 1)...)
}

// P15.1: Lets, up to the first name that they have.
func TestFirstLets(t *testing.T) {
	x, y, z := v("x"), v("y"), v("z")
	first(t, let1("x", y, lit(1)), "")
	first(t, let1("x", y, x), "")
	first(t, let1("x", y, z), "z")
	first(t, let1("x", y, y), "y")
	first(t, let1("x", lit(1), add(y, add(x, z))), "y")
	first(t, let1("x", lit(1), add(add(y, z), x)), "y z")
	first(t, let1("x", lit(1), add(x, add(y, z))), "")
	first(t, let(add(z, add(y, add(x, v("w")))), bind("x", lit(1)), bind("y", lit(1))), "z")
	first(t, let(add(v("w"), add(v("u"), z)), bind("x", lit(1)), bind("y", lit(1))), "w u z")
	first(t, let(add(z, y), bind("x", z), bind("y", x)), "z")
	// one in another
	first(t, let1("x", z, let1("y", z, add(z, add(y, x)))), "z")
	first(t, let1("x", z, let1("y", z, add(v("w"), add(z, add(x, y))))), "w z")
	first(t, let1("x", let1("y", z, x), y), "y")
	first(t, let1("x", z, let1("x", z, add(y, x))), "y")
	// nothing comes behind it
	first(t, add(let1("x", lit(1), y), z), "y")
	first(t, add(z, let1("x", lit(1), add(y, x))), "z y")
	first(t, add(x, let1("x", lit(1), add(x, y))), "x")
	first(t, add(x, let1("y", lit(1), add(x, z))), "x z")
	first(t, app(let1("x", lit(1), y), z), "y")
	first(t, app(v("f"), let1("x", lit(1), y), z), "y", order("f", 2, 0, 1))
	first(t, app(v("f"), y, let1("x", z, add(z, add(x, y)))), "y z", order("f", 2, 0, 1))
	first(t, let1("f", lam("a", v("a")), app(v("f"), x)), "x", order("f", 1, 0)) // by the name alone
	first(t, let1("f", lam("a", v("a")), app(v("f"), x)), "")
	// the chapter's example
	first(t, let1("x", z, add(y, x)), "y")
}

// P15.1: Cases with one alternative.
func TestFirstCases(t *testing.T) {
	x, y, z := v("x"), v("y"), v("z")
	first(t, cas(x, "k", other(y)), "x y")
	first(t, cas(x, "k", other(lit(1))), "x")
	first(t, cas(lit(3), "k", other(y)), "y")
	first(t, cas(add(x, z), "k", litAlt(1, y)), "x z y")
	first(t, cas(x, "k", conAlt("Nil", "", add(y, z))), "x y z")
	// a scrutinee that is not simple
	for _, e := range []api.Expr{get(), raise(), prim(api.Put, lit(1)), con("Nil"), lam("a", y), prim(api.Quot, lit(4), lit(2)), cas(lit(1), "j", other(lit(1))), let1("a", y, lit(1))} {
		first(t, cas(e, "k", other(y)), "")
		first(t, cas(add(x, e), "k", other(y)), "x")
	}
	first(t, cas(prim(api.Rem, x, z), "k", other(y)), "x z")
	first(t, cas(app(x, z), "k", other(y)), "x")
	first(t, cas(cas(x, "j", other(z)), "k", other(y)), "x z")
	first(t, cas(prim(api.Put, x), "k", other(y)), "x")
	// Name does not stand in the list
	first(t, cas(x, "k", other(v("k"))), "x")
	first(t, cas(x, "k", other(add(v("k"), y))), "x y")
	first(t, cas(x, "k", other(add(y, add(v("k"), z)))), "x y z")
	first(t, cas(lit(1), "k", other(add(v("k"), y))), "y")
	first(t, cas(v("k"), "k", other(add(v("k"), y))), "k y")
	// what the scrutinee demands neither
	first(t, cas(x, "k", other(add(x, y))), "x y")
	first(t, cas(add(x, y), "k", other(add(y, add(z, x)))), "x y z")
	// up to the first of Names
	first(t, cas(x, "k", conAlt("Pair", "a b", v("a"))), "x")
	first(t, cas(x, "k", conAlt("Pair", "a b", v("b"))), "x")
	first(t, cas(x, "k", conAlt("Pair", "a b", add(v("a"), y))), "x")
	first(t, cas(x, "k", conAlt("Pair", "a b", add(y, add(v("b"), z)))), "x y")
	first(t, cas(x, "k", conAlt("Pair", "a b", add(add(v("k"), y), add(x, add(z, v("a")))))), "x y z")
	// names that are both: they do not stand in the list, so it goes on behind them
	first(t, cas(x, "k", conAlt("Pair", "k b", add(v("k"), y))), "x y")
	first(t, cas(x, "k", conAlt("Pair", "x b", add(x, y))), "x y")
	first(t, add(y, cas(x, "k", conAlt("Pair", "y b", add(x, add(y, z))))), "y x")
	first(t, cas(x, "k", conAlt("Pair", "a b", cas(y, "a", other(add(v("a"), add(z, v("b"))))))), "x y z")
	first(t, let1("k", z, cas(x, "k", other(add(v("k"), y)))), "x y")
	first(t, let1("k", z, cas(v("k"), "k", other(y))), "")
	// one in another
	first(t, cas(x, "k", other(cas(y, "j", other(add(v("k"), add(v("j"), z)))))), "x y z")
	first(t, cas(x, "k", conAlt("Pair", "a b", cas(y, "j", other(add(z, add(v("b"), v("w"))))))), "x y z")
	first(t, cas(x, "k", conAlt("Pair", "a b", cas(v("a"), "j", other(z)))), "x")
	first(t, cas(x, "k", other(cas(get(), "j", other(z)))), "x")
	// nothing comes behind it
	first(t, add(cas(x, "k", other(y)), z), "x y")
	first(t, app(v("f"), cas(x, "k", other(y)), z), "x y", order("f", 2, 0, 1))
	first(t, app(cas(x, "k", other(y)), z), "x y")
}

// P15.1: Cases with any number of alternatives: as far as their lists begin in the
// same way.
func TestFirstAlternatives(t *testing.T) {
	w, x, y, z := v("w"), v("x"), v("y"), v("z")
	three := func(a, b, c api.Expr) api.Expr {
		return cas(x, "k", conAlt("A", "a", a), conAlt("B", "b c", b), other(c))
	}
	first(t, cas(x, "k"), "x")
	first(t, cas(get(), "k"), "")
	first(t, three(y, y, y), "x y")
	first(t, three(y, y, z), "x")
	first(t, three(y, z, y), "x")
	first(t, three(z, y, y), "x")
	first(t, three(y, y, lit(1)), "x")
	first(t, three(lit(1), y, y), "x")
	first(t, three(raise(), y, y), "x")
	// common beginnings of any length
	first(t, three(add(y, z), add(y, z), add(y, z)), "x y z")
	first(t, three(add(y, z), add(y, w), add(y, z)), "x y")
	first(t, three(add(y, z), y, add(y, z)), "x y")
	first(t, three(add(y, z), add(y, z), add(add(y, z), w)), "x y z")
	first(t, three(add(y, add(z, w)), add(add(y, z), v("v")), add(y, z)), "x y z")
	first(t, three(add(y, z), add(z, y), add(y, z)), "x")
	first(t, three(add(y, z), add(z, y), add(z, y)), "x")
	// each without Name, and without what the scrutinee demands
	first(t, three(add(x, y), y, add(v("k"), y)), "x y")
	first(t, three(add(y, x), add(y, v("k")), y), "x y")
	first(t, three(x, v("k"), add(x, v("k"))), "x")
	first(t, cas(add(x, z), "k", litAlt(1, add(z, y)), litAlt(2, add(x, y)), other(add(v("k"), y))), "x z y")
	// each up to the first of its own Names
	first(t, three(add(y, v("a")), add(y, v("b")), add(y, z)), "x y")
	first(t, three(add(y, add(v("a"), z)), add(y, z), add(y, z)), "x y")
	first(t, three(v("a"), v("a"), v("a")), "x")
	first(t, three(v("b"), add(y, v("b")), v("b")), "x")
	first(t, three(add(y, v("b")), add(y, v("a")), add(y, v("c"))), "x y")
	first(t, cas(x, "k", conAlt("A", "a", add(v("b"), y)), conAlt("B", "c", add(v("b"), y))), "x b y")
	// what is demanded ahead of all of it counts only at the end
	first(t, add(y, three(add(y, z), z, z)), "y x")
	first(t, add(y, three(add(y, z), add(y, z), add(y, z))), "y x z")
	first(t, let1("y", w, three(add(z, y), add(z, y), add(z, y))), "x z")
	first(t, let1("y", w, three(add(y, z), add(y, z), add(y, z))), "x")
	first(t, let1("k", w, three(add(v("k"), z), z, z)), "x z")
	// one in another
	first(t, three(cas(y, "j", litAlt(1, z), other(z)), add(y, z), cas(y, "i", other(add(z, w)))), "x y z")
	first(t, three(cas(y, "j", litAlt(1, z), other(w)), add(y, z), add(y, w)), "x y")
	first(t, three(cas(get(), "j", litAlt(1, z), other(z)), z, z), "x")
	inner := cas(w, "j", litAlt(1, add(x, y)), other(y))
	first(t, three(inner, inner, inner), "x w")
	inner = cas(w, "j", litAlt(1, add(x, y)), other(add(x, y)))
	first(t, three(inner, inner, add(w, y)), "x w y")
	// by orders
	first(t, three(app(v("f"), z, y), y, app(v("f"), w, y)), "x y", order("f", 2, 1))
	// scrutinees that are not simple
	first(t, cas(get(), "k", litAlt(1, y), other(y)), "")
	first(t, cas(prim(api.Quot, x, y), "k", litAlt(1, z), other(z)), "x y")
	// nothing comes behind it
	first(t, add(three(y, y, y), z), "x y")
}
