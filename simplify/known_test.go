package simplify_test

import (
	"testing"

	"teasel/api"
)

// P14.1: Case, 3, with the shapes of Lets.
func TestKnownLets(t *testing.T) {
	a, b, c, d, e, f, s, x := v("a"), v("b"), v("c"), v("d"), v("e"), v("f"), v("s"), v("x")
	// k stands for a name that stays, as it is used besides
	around := func(shape, body api.Expr) api.Expr { return let1("k", shape, app(f, v("k"), v("k"), body)) }
	want := func(shape, body, want api.Expr) {
		t.Helper()
		wantPass(t, around(shape, body), around(shape, want))
	}
	k := v("k")
	want(pair(s, lit(2)), cas(k, "x", conAlt("Pair", "a b", app(b, a))), app(lit(2), s))
	want(pair(s, f), cas(k, "x", conAlt("Pair", "a b", app(x, a, x))), app(k, s, k))
	want(con("Nil"), cas(k, "x", conAlt("Cons", "a b", a), conAlt("Nil", "", app(s, x))), app(s, k))
	want(con("Nil"), cas(k, "x", conAlt("Cons", "a b", a), other(x)), k)
	want(con("Nil"), cas(k, "x", litAlt(1, s), other(x)), k)
	want(con("Cons", s, s), cas(k, "x", conAlt("Cons", "a b", lam("c", app(a, b, c))), other(x)), lam("c", app(s, s, c)))
	want(pair(s, s), cas(k, "x", other(app(x, x))), app(k, k))
	// none that matches
	for _, e := range []api.Expr{cas(k, "x", conAlt("Cons", "a b", a)), cas(k, "x", litAlt(1, x)), cas(k, "x", conAlt("Pair", "a b", a))} {
		want(con("Nil"), e, e)
	}
	// a field that is the name itself
	want(pair(k, s), cas(k, "x", conAlt("Pair", "a b", app(a, b, x))), app(k, s, k))
	// no shapes: fields that are no atoms, and other expressions; in a Let of several that is one group
	for _, e := range []api.Expr{pair(get(), s), app(f, s), get(), lam("g", v("g")), con(api.Box, con("Nil"))} {
		wantSame(t, around(e, cas(k, "x", conAlt("Pair", "a b", app(a, b)), other(x))))
	}
	many := func(body api.Expr) api.Expr {
		return let(app(d, body), bind("d", pair(e, s)), bind("e", pair(d, lit(1))))
	}
	wantPass(t, many(cas(e, "x", conAlt("Pair", "a b", app(a, b)))), many(app(d, lit(1))))
	wantPass(t, many(cas(d, "x", conAlt("Pair", "a b", cas(a, "y", conAlt("Pair", "h i", app(v("h"), v("i"), v("y"))))))), many(cas(e, "y", conAlt("Pair", "h i", app(v("h"), v("i"), v("y"))))))
	// a Lit is known, and then replaced
	wantPass(t, let1("k", lit(3), cas(k, "x", litAlt(2, s), litAlt(3, app(x, s)))), app(lit(3), s))
	wantPass(t, let1("k", lit(3), cas(k, "x", litAlt(2, s), other(x))), lit(3))
	wantPass(t, let1("k", lit(3), cas(k, "x", litAlt(2, s))), cas(lit(3), "x", litAlt(2, s)))
	// what becomes a shape
	wantPass(t, around(pair(s, add(lit(1), lit(1))), cas(k, "x", conAlt("Pair", "a b", b))), around(pair(s, lit(2)), lit(2)))
	wantPass(t, around(let1("g", s, con(api.Box, v("g"))), cas(k, "x", conAlt(api.Box, "a", a))), around(con(api.Box, s), s))
	// known in the body, but not in the expressions of the Binds
	wantSame(t, let(app(d, e), bind("d", pair(e, s)), bind("e", cas(d, "x", conAlt("Pair", "a b", app(a, b))))))
	wantPass(t, let1("g", pair(s, s), let1("h", cas(v("g"), "x", conAlt("Pair", "a b", app(a, b))), app(v("g"), v("g"), v("h")))), let1("g", pair(s, s), app(v("g"), v("g"), app(s, s))))
	// and not behind the Let
	wantSame(t, app(f, around(pair(s, s), lit(1)), cas(s, "x", conAlt("Pair", "a b", a))))
}

// P14.1: the shapes of alternatives, by the Name and by the scrutinee's name.
func TestKnownAlternatives(t *testing.T) {
	a, b, c, d, f, s, x, y := v("a"), v("b"), v("c"), v("d"), v("f"), v("s"), v("x"), v("y")
	inner := func(name string) api.Expr { return cas(v(name), "y", conAlt("Pair", "c d", app(y, d, c)), other(f)) }
	outer := func(of, body api.Expr) api.Expr { return cas(of, "x", conAlt("Pair", "a b", body)) }
	wantPass(t, outer(s, inner("x")), outer(s, app(x, b, a)))
	wantPass(t, outer(s, inner("s")), outer(s, app(s, b, a)))
	wantSame(t, outer(s, inner("f")))
	wantPass(t, outer(app(f, s), inner("x")), outer(app(f, s), app(x, b, a)))
	wantSame(t, outer(app(f, s), inner("s")))
	wantSame(t, outer(s, inner("a")))
	// of each of several alternatives
	wantPass(t, cas(s, "x", conAlt("Nil", "", cas(s, "y", conAlt("Nil", "", y), other(f))), conAlt("Cons", "a b", cas(x, "z", conAlt("Nil", "", f), conAlt("Cons", "c d", d)))),
		cas(s, "x", conAlt("Nil", "", s), conAlt("Cons", "a b", b)))
	// numbers
	wantPass(t, cas(s, "x", litAlt(1, cas(x, "y", litAlt(2, f), litAlt(1, y))), litAlt(2, cas(s, "z", litAlt(1, f), other(v("z"))))), cas(s, "x", litAlt(1, x), litAlt(2, s)))
	wantSame(t, cas(s, "x", litAlt(1, cas(s, "y", litAlt(2, f)))))
	wantSame(t, cas(s, "x", litAlt(1, app(x, s))))
	// nothing is known for a Default, and not behind an alternative
	wantSame(t, cas(s, "x", litAlt(1, f), other(cas(x, "y", litAlt(1, f), other(y)))))
	wantSame(t, cas(s, "x", litAlt(1, f), other(cas(s, "y", litAlt(1, f), other(y)))))
	wantSame(t, cas(s, "x", conAlt("Nil", "", f), conAlt("Cons", "a b", cas(f, "y", other(y)))))
	wantSame(t, app(f, outer(s, a), cas(s, "y", conAlt("Pair", "c d", c))))
	// in all that is in the Body
	wantPass(t, outer(s, lam("g", inner("s"))), outer(s, lam("g", app(s, b, a))))
	wantPass(t, outer(s, let1("g", app(v("g"), inner("x")), v("g"))), outer(s, let1("g", app(v("g"), app(x, b, a)), v("g"))))
	// a scrutinee that becomes a name
	wantPass(t, outer(let1("g", s, v("g")), inner("s")), outer(s, app(s, b, a)))
}

// P14.1: of a name that is known twice the most recent shape applies.
func TestKnownTwice(t *testing.T) {
	a, b, c, d, f, s := v("a"), v("b"), v("c"), v("d"), v("f"), v("s")
	// by two alternatives: in the inner one its own Names; then the outer rule
	wantPass(t, cas(s, "x", conAlt("Pair", "a b", cas(v("s"), "y", conAlt("Pair", "c d", cas(s, "z", conAlt("Pair", "g h", app(f, v("g"), v("d"))))), other(f)))),
		cas(s, "x", conAlt("Pair", "a b", app(f, a, b))))
	wantSame(t, cas(s, "x", conAlt("Pair", "a b", cas(s, "y", conAlt("Cons", "c d", app(c, d)), conAlt("Nil", "", f)))))
	wantPass(t, cas(s, "x", conAlt("Pair", "a b", cas(s, "y", conAlt("Cons", "c d", cas(s, "z", conAlt("Cons", "g h", app(v("h"), v("g"))), other(f))), conAlt("Nil", "", f)))),
		cas(s, "x", conAlt("Pair", "a b", cas(s, "y", conAlt("Cons", "c d", app(d, c)), conAlt("Nil", "", f)))))
	wantPass(t, cas(s, "x", litAlt(1, cas(s, "y", litAlt(2, cas(s, "z", litAlt(2, v("y")), litAlt(1, v("x")))), litAlt(3, f)))), cas(s, "x", litAlt(1, cas(s, "y", litAlt(2, v("y")), litAlt(3, f)))))
	// by a Let, and an alternative in it
	k := v("k")
	wantPass(t, let1("k", pair(s, f), app(k, k, cas(k, "x", conAlt("Nil", "", f), conAlt("Cons", "a b", cas(k, "y", conAlt("Cons", "c d", app(c, d)), other(k)))))),
		let1("k", pair(s, f), app(k, k, cas(k, "x", conAlt("Nil", "", f), conAlt("Cons", "a b", app(a, b))))))
}
