package simplify_test

import (
	"math"
	"testing"

	"teasel/api"
)

// P14.1: Lam.
func TestLam(t *testing.T) {
	a, b, c := v("a"), v("b"), v("c")
	wantSame(t, lam("a", a))
	wantSame(t, lam("a b", app(a, b)))
	wantPass(t, lam("a", lam("b", app(a, b))), lam("a b", app(a, b)))
	wantPass(t, lam("a b", lam("c d", app(a, b, c, v("d")))), lam("a b c d", app(a, b, c, v("d"))))
	// children first: all of them become one
	wantPass(t, lam("a", lam("b", lam("c", app(a, b, c)))), lam("a b c", app(a, b, c)))
	wantPass(t, lam("a b", lam("c", lam("d e", lam("g", c)))), lam("a b c d e g", c))
	// a body that becomes a Lam, and others that have one inside
	wantPass(t, lam("a", let1("b", lit(1), lam("c", b))), lam("a c", lit(1)))
	wantPass(t, lam("a", add(lit(1), lit(2))), lam("a", lit(3)))
	wantSame(t, lam("a", let1("b", get(), lam("c", b))))
	wantSame(t, lam("a", con(api.Box, lam("b", a))))
	// main itself
	wantBinds(t, program(bind(api.Main, lam("a", lam("b", a)))), bind(api.Main, lam("a b", a)))
}

// P14.1: Con and what no rule mentions: the children are simplified.
func TestChildren(t *testing.T) {
	three := add(lit(1), lit(2))
	for _, around := range []func(e api.Expr) api.Expr{
		func(e api.Expr) api.Expr { return e },
		func(e api.Expr) api.Expr { return con(api.Box, e) },
		func(e api.Expr) api.Expr { return pair(v("s"), e) },
		func(e api.Expr) api.Expr { return pair(e, v("s")) },
		func(e api.Expr) api.Expr { return prim(api.Put, e) },
		func(e api.Expr) api.Expr { return add(e, get()) },
		func(e api.Expr) api.Expr { return add(get(), e) },
		func(e api.Expr) api.Expr { return app(v("f"), e) },
		func(e api.Expr) api.Expr { return app(v("f"), v("s"), e, lit(4)) },
		func(e api.Expr) api.Expr { return lam("a", e) },
		func(e api.Expr) api.Expr { return cas(v("s"), "a", other(e)) },
		func(e api.Expr) api.Expr { return cas(get(), "a", litAlt(1, lit(1)), litAlt(2, e), other(get())) },
		func(e api.Expr) api.Expr { return cas(app(v("f"), e), "a", other(v("a"))) },
		func(e api.Expr) api.Expr { return cas(v("s"), "a", conAlt("Pair", "b c", e)) },
		func(e api.Expr) api.Expr { return let1("a", app(v("f"), v("a"), e), v("a")) },
		func(e api.Expr) api.Expr { return let1("a", get(), add(v("a"), add(v("a"), e))) },
	} {
		wantPass(t, around(three), around(lit(3)))
		wantSame(t, around(app(v("f"), lit(3))))
	}
}

// P14.1: Prims of Lits.
func TestPrim(t *testing.T) {
	const least, most = math.MinInt64, math.MaxInt64
	yes, no := con(api.True), con(api.False)
	for _, c := range []struct {
		op, a, b int
		want     api.Expr
	}{
		{api.Add, 1, 2, lit(3)}, {api.Add, most, 1, lit(least)}, {api.Add, least, -1, lit(most)}, {api.Add, 5, -5, lit(0)},
		{api.Minus, 1, 2, lit(-1)}, {api.Minus, least, 1, lit(most)}, {api.Minus, 0, least, lit(least)},
		{api.Mul, 6, 7, lit(42)}, {api.Mul, -6, 7, lit(-42)}, {api.Mul, most, 2, lit(-2)}, {api.Mul, least, -1, lit(least)}, {api.Mul, 1 << 32, 1 << 32, lit(0)},
		{api.Quot, 7, 2, lit(3)}, {api.Quot, -7, 2, lit(-3)}, {api.Quot, 7, -2, lit(-3)}, {api.Quot, -7, -2, lit(3)}, {api.Quot, 0, 5, lit(0)},
		{api.Quot, least, -1, lit(least)}, {api.Quot, 5, -1, lit(-5)}, {api.Quot, most, -1, lit(-most)},
		{api.Rem, 7, 2, lit(1)}, {api.Rem, -7, 2, lit(-1)}, {api.Rem, 7, -2, lit(1)}, {api.Rem, -7, -2, lit(-1)},
		{api.Rem, least, -1, lit(0)}, {api.Rem, 5, -1, lit(0)}, {api.Rem, 0, 5, lit(0)},
		{api.Eq, 1, 1, yes}, {api.Eq, 1, 2, no}, {api.Eq, least, most, no}, {api.Eq, 0, 0, yes},
		{api.Lt, 1, 2, yes}, {api.Lt, 2, 2, no}, {api.Lt, 3, 2, no}, {api.Lt, least, most, yes}, {api.Lt, -1, 0, yes},
		{api.Le, 1, 2, yes}, {api.Le, 2, 2, yes}, {api.Le, 3, 2, no}, {api.Le, most, least, no},
	} {
		wantPass(t, prim(c.op, lit(c.a), lit(c.b)), c.want)
		wantSame(t, prim(c.op, lit(c.a), v("s")))
		wantSame(t, prim(c.op, v("s"), lit(c.b)))
		wantSame(t, prim(c.op, lit(c.a), get()))
	}
	for _, op := range []int{api.Quot, api.Rem} {
		for _, a := range []int{0, 1, -1, least, most} {
			wantSame(t, prim(op, lit(a), lit(0)))
		}
	}
	for _, e := range []api.Expr{get(), raise(), prim(api.Put, lit(1)), prim(api.Put, lit(300)), prim(api.Put, v("s")), add(yes, lit(1)), prim(api.Eq, yes, yes), add(v("s"), v("s"))} {
		wantSame(t, e)
	}
	// children first
	wantPass(t, add(add(lit(1), lit(2)), prim(api.Mul, lit(3), lit(4))), lit(15))
	wantPass(t, add(prim(api.Quot, lit(1), prim(api.Minus, lit(3), lit(3))), add(lit(1), lit(1))), add(prim(api.Quot, lit(1), lit(0)), lit(2)))
	wantPass(t, prim(api.Put, add(lit(1), lit(2))), prim(api.Put, lit(3)))
	wantPass(t, add(prim(api.Lt, lit(1), lit(2)), lit(1)), add(yes, lit(1)))
	// a result is not simplified again: the Prim came first
	wantPass(t, let1("a", lit(3), add(v("a"), lit(1))), add(lit(3), lit(1)))
	wantPass(t, add(let1("a", lit(3), v("a")), lit(1)), lit(4))
}

// P14.1: App, by its function.
func TestApp(t *testing.T) {
	a, b, s, f := v("a"), v("b"), v("s"), v("f")
	one, two := lit(1), lit(2)
	for _, e := range []api.Expr{app(f, s), app(one, two), app(con("Nil"), one), app(get(), one), app(prim(api.Put, one), two), app(f, raise()), app(f, lam("a", a)),
		app(cas(s, "a", litAlt(1, f), other(a)), one)} {
		wantSame(t, e)
	}
	// an App
	wantPass(t, app(app(f, one), two), app(f, one, two))
	wantPass(t, app(app(f, one, s), two, lit(3)), app(f, one, s, two, lit(3)))
	wantPass(t, app(app(app(f, one), two), lit(3)), app(f, one, two, lit(3)))
	wantPass(t, app(f, app(f, one)), app(f, app(f, one)))
	// a Let
	wantPass(t, app(let1("a", get(), app(a, a)), one), let1("a", get(), app(app(a, a), one)))
	wantPass(t, app(let1("a", app(f, a), a), s, two), let1("a", app(f, a), app(a, s, two)))
	wantPass(t, app(let(app(a, b), bind("a", app(f, b)), bind("b", app(f, a))), one), let(app(app(a, b), one), bind("a", app(f, b)), bind("b", app(f, a))))
	// a Case with one alternative
	wantPass(t, app(cas(s, "a", other(f)), one), cas(s, "a", other(app(f, one))))
	wantPass(t, app(cas(s, "a", litAlt(7, a)), one, two), cas(s, "a", litAlt(7, app(a, one, two))))
	wantPass(t, app(cas(s, "a", conAlt("Pair", "b c", app(b, v("c")))), one), cas(s, "a", conAlt("Pair", "b c", app(app(b, v("c")), one))))
	// Raise
	wantPass(t, app(raise(), one), raise())
	wantPass(t, app(raise(), get(), app(f, one)), raise())
	wantPass(t, app(app(raise(), one), two), raise())
	// a Lam with as many names as arguments
	wantPass(t, app(lam("a", app(a, a)), get()), let1("a", get(), app(a, a)))
	wantPass(t, app(lam("a", one), get()), let1("a", get(), one))
	wantPass(t, app(lam("a b", app(b, a)), get(), two), let(app(b, a), bind("a", get()), bind("b", two)))
	wantPass(t, app(lam("a b c", b), one, s, f), let(b, bind("a", one), bind("b", s), bind("c", f)))
	// with more names
	wantPass(t, app(lam("a b", a), get()), let1("a", get(), lam("b", a)))
	wantPass(t, app(lam("a b c d", app(a, b, v("c"), v("d"))), one, two), let(lam("c d", app(a, b, v("c"), v("d"))), bind("a", one), bind("b", two)))
	wantPass(t, app(lam("a", lam("b", lam("c", b))), one), let1("a", one, lam("b c", b)))
	// with fewer names
	wantPass(t, app(lam("a", a), get(), one), let1("a", get(), app(a, one)))
	wantPass(t, app(lam("a b", app(b, a)), get(), one, two, s), let(app(app(b, a), two, s), bind("a", get()), bind("b", one)))
	// the function's child is simplified first, and the result not again
	wantPass(t, app(app(lam("a b", a), one), two), let1("a", one, app(lam("b", a), two)))
	wantPass(t, app(add(one, two), s), app(lit(3), s))
	wantPass(t, app(let1("a", lit(1), f), two), app(f, two))
	wantPass(t, app(f, add(one, two)), app(f, lit(3)))
}

// P14.1: Let, 1: Binds that are not Live.
func TestDeadBinds(t *testing.T) {
	a, b, c, f := v("a"), v("b"), v("c"), v("f")
	one := lit(1)
	// none is live: the body
	wantPass(t, let1("a", get(), one), one)
	wantPass(t, let1("a", app(f, a), one), one)
	wantPass(t, let1("a", raise(), app(f, one)), app(f, one))
	wantPass(t, let(get(), bind("a", b), bind("b", a)), get())
	wantPass(t, let(lam("d", v("d")), bind("a", one), bind("b", a), bind("c", get())), lam("d", v("d")))
	// some are: one Let of these, although they are several groups, or would go
	wantPass(t, let(app(a, c), bind("a", get()), bind("b", get()), bind("c", get())), let(app(a, c), bind("a", get()), bind("c", get())))
	wantPass(t, let(b, bind("a", get()), bind("b", one)), let1("b", one, b))
	wantPass(t, let(b, bind("a", app(f, b)), bind("b", get())), let1("b", get(), b))
	wantPass(t, let(a, bind("a", b), bind("b", get()), bind("c", a)), let(a, bind("a", b), bind("b", get())))
	wantPass(t, let(a, bind("a", let1("d", get(), pair(v("d"), v("d")))), bind("b", a)), let1("a", let1("d", get(), pair(v("d"), v("d"))), a))
	wantPass(t, let(app(c, c), bind("a", b), bind("b", a), bind("c", app(f, c))), let1("c", app(f, c), app(c, c)))
	// by the simplified body and expressions
	wantPass(t, let1("a", get(), app(raise(), a)), raise())
	wantPass(t, let(b, bind("a", get()), bind("b", let1("d", a, one))), let1("b", one, b))
	wantPass(t, let1("a", get(), let1("b", a, one)), one)
}

// P14.1: Let, 2: several groups.
func TestGroups(t *testing.T) {
	a, b, c, d, f := v("a"), v("b"), v("c"), v("d"), v("f")
	one := lit(1)
	two := func(e api.Expr) api.Expr { return app(f, e, e) }
	wantPass(t, let(app(a, b), bind("a", get()), bind("b", get())), let1("a", get(), let1("b", get(), app(a, b))))
	wantPass(t, let(a, bind("a", two(b)), bind("b", get())), let1("b", get(), let1("a", two(b), a)))
	wantPass(t, let(a, bind("a", two(b)), bind("b", two(c)), bind("c", get())), let1("c", get(), let1("b", two(c), let1("a", two(b), a))))
	wantPass(t, let(app(a, c), bind("a", two(a)), bind("b", get()), bind("c", b)), let1("a", two(a), let1("b", get(), let1("c", b, app(a, c)))))
	// groups of several, in the order of their binds
	wantPass(t, let(app(a, d), bind("a", two(c)), bind("b", one), bind("c", app(a, b)), bind("d", get())),
		let1("b", one, let(let1("d", get(), app(a, d)), bind("a", two(c)), bind("c", app(a, b)))))
	wantPass(t, let(app(a, b), bind("d", c), bind("c", d), bind("b", a), bind("a", app(b, c))),
		let(let(app(a, b), bind("b", a), bind("a", app(b, c))), bind("d", c), bind("c", d)))
	// one group of several stays
	wantSame(t, let(a, bind("a", b), bind("b", a)))
	wantSame(t, let(a, bind("a", pair(b, one)), bind("b", let1("d", get(), pair(d, app(d, a))))))
	// the new Lets are not simplified again
	wantPass(t, let(app(a, b), bind("a", one), bind("b", f)), let1("a", one, let1("b", f, app(a, b))))
}

// P14.1: Let, 3: a bind that is an atom, or occurs Once.
func TestInlined(t *testing.T) {
	a, b, f, s := v("a"), v("b"), v("f"), v("s")
	one := lit(1)
	// atoms, wherever and however often they occur
	wantPass(t, let1("a", one, app(a, a, lam("b", a))), app(one, one, lam("b", one)))
	wantPass(t, let1("a", s, app(a, f, a)), app(s, f, s))
	wantPass(t, let1("a", s, a), s)
	wantPass(t, let1("a", one, a), one)
	wantPass(t, let1("a", s, lam("b", cas(a, "c", conAlt("Pair", "d e", app(a, b, v("d"))), other(pair(v("c"), a))))), lam("b", cas(s, "c", conAlt("Pair", "d e", app(s, b, v("d"))), other(pair(v("c"), s)))))
	wantPass(t, let1("a", s, let1("b", app(a, b), app(b, a))), let1("b", app(s, b), app(b, s)))
	// what becomes an atom
	wantPass(t, let1("a", add(one, one), app(a, a)), app(lit(2), lit(2)))
	wantPass(t, let1("a", let1("b", s, b), app(a, a)), app(s, s))
	// others, if they occur Once
	for _, e := range []api.Expr{get(), raise(), con("Nil"), pair(one, s), app(f, one), lam("g", v("g")), add(s, one), cas(s, "g", other(v("g"))), let(v("g"), bind("g", v("h")), bind("h", v("g")))} {
		wantPass(t, let1("a", e, a), e)
		wantPass(t, let1("a", e, app(f, a)), app(f, e))
		wantPass(t, let1("a", e, cas(s, "c", litAlt(1, one), other(pair(s, a)))), cas(s, "c", litAlt(1, one), other(pair(s, e))))
		wantPass(t, let1("a", e, let(app(b, b), bind("b", pair(b, a)))), let(app(b, b), bind("b", pair(b, e))))
		wantSame(t, let1("a", e, app(a, a)))
		wantSame(t, let1("a", e, app(f, lam("b", a))))
		wantSame(t, let1("a", e, app(f, lam("b", a), a)))
		wantSame(t, let1("a", e, lam("b", a)))
		wantSame(t, let1("a", e, cas(s, "c", litAlt(1, a), other(a))))
		// by the simplified body
		wantPass(t, let1("a", e, app(a, cas(raise(), "c", other(a)))), app(e, raise()))
		wantPass(t, let1("a", e, app(lam("b", app(a, b, b)), get())), let1("b", get(), app(e, b, b)))
		wantPass(t, let1("a", e, app(f, let1("b", a, lam("c", b)))), let1("a", e, app(f, lam("c", a))))
	}
	// not if it is free in its own expression
	wantSame(t, let1("a", a, a))
	wantSame(t, let1("a", app(f, a), a))
	wantSame(t, let1("a", lam("b", app(a, b)), app(a, one)))
	wantSame(t, let1("a", pair(one, a), a))
	// several at once, from within
	wantPass(t, let1("a", one, let1("b", a, app(b, a))), app(one, one))
	wantPass(t, let1("a", get(), let1("b", add(a, one), app(f, b))), app(f, add(get(), one)))
	wantPass(t, let1("a", get(), let1("b", a, app(f, b))), app(f, get()))
	wantPass(t, let1("a", get(), let1("b", a, app(b, b))), let1("a", get(), app(a, a)))
	wantPass(t, let1("a", get(), let1("b", pair(a, a), app(f, b))), let1("a", get(), app(f, pair(a, a))))
	// what comes there is not simplified again
	wantPass(t, let1("a", lam("b", b), app(a, one)), app(lam("b", b), one))
	wantPass(t, let1("a", app(f, one), app(a, one)), app(app(f, one), one))
}

// P14.1: Let, 4: a bind that is a Let.
func TestFloated(t *testing.T) {
	a, b, c, f := v("a"), v("b"), v("c"), v("f")
	one := lit(1)
	twice := app(a, a)
	for _, inner := range []api.Expr{pair(b, b), lam("g", app(b, v("g"))), con(api.Box, app(f, b, b)), pair(b, app(b, b))} {
		wantPass(t, let1("a", let1("b", app(f, b), inner), twice), let1("b", app(f, b), let1("a", inner, twice)))
		wantPass(t, let1("a", let(inner, bind("b", app(f, c)), bind("c", app(f, b))), twice), let(let1("a", inner, twice), bind("b", app(f, c)), bind("c", app(f, b))))
	}
	// a Lit is the body of a Let only behind another rule
	wantPass(t, let1("a", app(lam("b", one), get()), twice), let1("b", get(), let1("a", one, twice)))
	wantPass(t, let1("a", app(lam("b c", b), get()), twice), let1("b", get(), let1("a", lam("c", b), twice)))
	// other bodies
	for _, inner := range []api.Expr{b, app(f, b, b), add(b, b), cas(b, "g", other(b))} {
		wantSame(t, let1("a", let1("b", app(f, b), inner), twice))
	}
	wantSame(t, let1("a", let1("b", app(f, b), let1("c", app(f, c, b), pair(b, c))), twice))
	// of several binds
	wantSame(t, let(app(a, c), bind("a", let1("b", app(f, c, b), pair(b, b))), bind("c", app(a, a))))
	// if it occurs Once, the Let itself goes there
	wantPass(t, let1("a", let1("b", app(f, b), pair(b, b)), app(f, a)), app(f, let1("b", app(f, b), pair(b, b))))
	// what is a Let around a Let by the same rule stays
	wantPass(t, let1("a", let1("b", let1("c", app(f, c), pair(c, c)), pair(b, b)), twice), let1("a", let1("c", app(f, c), let1("b", pair(c, c), pair(b, b))), twice))
}
