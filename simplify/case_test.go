package simplify_test

import (
	"testing"

	"teasel/api"
)

// P14.1: Case, 1: of a Lit.
func TestCaseOfLit(t *testing.T) {
	x, s := v("x"), v("s")
	wantPass(t, cas(lit(3), "x", litAlt(3, x)), let1("x", lit(3), x))
	wantPass(t, cas(lit(3), "x", litAlt(2, s), litAlt(3, app(x, s)), litAlt(4, x)), let1("x", lit(3), app(x, s)))
	wantPass(t, cas(lit(3), "x", litAlt(2, s), litAlt(3, s), other(x)), let1("x", lit(3), s))
	wantPass(t, cas(lit(-1), "x", litAlt(1, s), other(app(x, x))), let1("x", lit(-1), app(x, x)))
	wantPass(t, cas(lit(0), "x", other(get())), let1("x", lit(0), get()))
	// whatever other alternatives there are
	wantPass(t, cas(lit(0), "x", conAlt("Nil", "", s), other(x)), let1("x", lit(0), x))
	wantPass(t, cas(lit(0), "x", conAlt("Nil", "", s), conAlt("Cons", "a b", v("a")), other(x)), let1("x", lit(0), x))
	// none that matches
	wantSame(t, cas(lit(3), "x", litAlt(2, x), litAlt(4, s)))
	wantSame(t, cas(lit(3), "x", conAlt("Nil", "", x)))
	wantSame(t, cas(lit(0), "x", conAlt(api.False, "", x), conAlt(api.True, "", s)))
	// what becomes a Lit
	wantPass(t, cas(add(lit(1), lit(2)), "x", litAlt(3, x), other(s)), let1("x", lit(3), x))
	wantPass(t, cas(let1("a", lit(3), v("a")), "x", litAlt(3, x), other(s)), let1("x", lit(3), x))
	wantPass(t, cas(cas(lit(1), "y", other(lit(3))), "x", litAlt(3, x), other(s)), let1("y", lit(1), cas(lit(3), "x", litAlt(3, x), other(s))))
}

// P14.1: Case, 2: of a Con.
func TestCaseOfCon(t *testing.T) {
	x, s, a, b := v("x"), v("s"), v("a"), v("b")
	nilCon := con("Nil")
	wantPass(t, cas(nilCon, "x", conAlt("Nil", "", x)), let1("x", nilCon, x))
	wantPass(t, cas(nilCon, "x", conAlt("Cons", "a b", a), conAlt("Nil", "", s)), let1("x", nilCon, s))
	wantPass(t, cas(con(api.Box, get()), "x", conAlt(api.Box, "a", app(a, x))), let1("a", get(), let1("x", con(api.Box, a), app(a, x))))
	wantPass(t, cas(con("Cons", get(), s), "x", conAlt("Nil", "", s), conAlt("Cons", "a b", app(b, a)), other(x)),
		let1("a", get(), let1("b", s, let1("x", con("Cons", a, b), app(b, a)))))
	wantPass(t, cas(pair(lit(1), lit(1)), "x", conAlt("Pair", "b a", x)), let1("b", lit(1), let1("a", lit(1), let1("x", pair(b, a), x))))
	// for a Default: with the fields as they are
	wantPass(t, cas(pair(get(), s), "x", other(app(x, x))), let1("x", pair(get(), s), app(x, x)))
	wantPass(t, cas(nilCon, "x", conAlt("Cons", "a b", a), other(x)), let1("x", nilCon, x))
	wantPass(t, cas(con(api.Box, get()), "x", litAlt(1, s), other(x)), let1("x", con(api.Box, get()), x))
	wantPass(t, cas(pair(s, s), "x", conAlt("Nil", "", s), other(lit(1))), let1("x", pair(s, s), lit(1)))
	// none that matches
	wantSame(t, cas(nilCon, "x", conAlt("Cons", "a b", a)))
	wantSame(t, cas(pair(get(), s), "x", conAlt("Nil", "", x), conAlt("Cons", "a b", a)))
	wantSame(t, cas(con(api.True), "x", litAlt(1, x)))
	// what becomes a Con
	wantPass(t, cas(prim(api.Lt, lit(1), lit(2)), "x", conAlt(api.False, "", s), conAlt(api.True, "", x)), let1("x", con(api.True), x))
	wantPass(t, cas(let1("c", s, pair(v("c"), lit(1))), "x", conAlt("Pair", "a b", b)), let1("a", s, let1("b", lit(1), let1("x", pair(a, b), b))))
}

// P14.1: Case, 4 and 5: of a Let, and of a Case with one alternative.
func TestCaseOfLetAndCase(t *testing.T) {
	x, s, f, a, b, y := v("x"), v("s"), v("f"), v("a"), v("b"), v("y")
	value := let1("a", app(f, a), app(a, a))
	wantPass(t, cas(value, "x", other(x)), let1("a", app(f, a), cas(app(a, a), "x", other(x))))
	wantPass(t, cas(value, "x", litAlt(1, s), litAlt(2, x)), let1("a", app(f, a), cas(app(a, a), "x", litAlt(1, s), litAlt(2, x))))
	wantPass(t, cas(let(a, bind("a", b), bind("b", a)), "x", other(s)), let(cas(a, "x", other(s)), bind("a", b), bind("b", a)))
	// not again: what the Let is around is not looked at
	wantPass(t, cas(let1("a", app(f, a), pair(a, lit(1))), "x", conAlt("Pair", "c d", v("d"))), let1("a", app(f, a), cas(pair(a, lit(1)), "x", conAlt("Pair", "c d", v("d")))))
	// a Case with one alternative of each Kind
	wantPass(t, cas(cas(s, "y", other(app(f, y))), "x", other(x)), cas(s, "y", other(cas(app(f, y), "x", other(x)))))
	wantPass(t, cas(cas(s, "y", litAlt(4, y)), "x", litAlt(1, x), litAlt(2, s)), cas(s, "y", litAlt(4, cas(y, "x", litAlt(1, x), litAlt(2, s)))))
	wantPass(t, cas(cas(s, "y", conAlt("Pair", "a b", a)), "x", other(app(x, x))), cas(s, "y", conAlt("Pair", "a b", cas(a, "x", other(app(x, x))))))
	// also if its Body is a Lit, a Con or Raise: the earlier rule is taken
	wantPass(t, cas(cas(s, "y", other(lit(3))), "x", litAlt(3, x)), cas(s, "y", other(cas(lit(3), "x", litAlt(3, x)))))
	wantPass(t, cas(cas(s, "y", other(con("Nil"))), "x", other(x)), cas(s, "y", other(cas(con("Nil"), "x", other(x)))))
	wantPass(t, cas(cas(s, "y", other(raise())), "x", other(x)), cas(s, "y", other(cas(raise(), "x", other(x)))))
	// one in the other, from within
	wantPass(t, cas(cas(cas(s, "y", other(y)), "x", other(x)), "z", other(v("z"))), cas(s, "y", other(cas(cas(y, "x", other(x)), "z", other(v("z"))))))
	wantPass(t, cas(cas(value, "y", other(y)), "x", other(x)), let1("a", app(f, a), cas(cas(app(a, a), "y", other(y)), "x", other(x))))
}

// P14.1: Case, 6: of a Case whose Bodies are known.
func TestCaseOfChoice(t *testing.T) {
	x, s, f, a, b := v("x"), v("s"), v("f"), v("a"), v("b")
	n := func(i string) api.Expr { return v("t#" + i) }
	choice := func(alts ...api.Alt) api.Expr { return cas(get(), "y", alts...) }
	// the chapter's order of names, with Names and the Name in the alternatives
	wantPass(t, cas(choice(litAlt(1, con("Nil")), litAlt(2, con("Cons", v("y"), get())), other(raise())), "x", conAlt("Cons", "a b", app(b, x, a)), conAlt("Nil", "", x), other(s)),
		let1("t#1", lam("a b t#2", app(b, n("2"), a)), let1("t#3", lam("t#4", n("4")), let1("t#5", lam("t#6", s),
			choice(litAlt(1, cas(con("Nil"), "t#7", conAlt("Cons", "t#8 t#9", app(n("1"), n("8"), n("9"), n("7"))), conAlt("Nil", "", app(n("3"), n("7"))), other(app(n("5"), n("7"))))),
				litAlt(2, cas(con("Cons", v("y"), get()), "t#10", conAlt("Cons", "t#11 t#12", app(n("1"), n("11"), n("12"), n("10"))), conAlt("Nil", "", app(n("3"), n("10"))), other(app(n("5"), n("10"))))),
				other(cas(raise(), "t#13", conAlt("Cons", "t#14 t#15", app(n("1"), n("14"), n("15"), n("13"))), conAlt("Nil", "", app(n("3"), n("13"))), other(app(n("5"), n("13"))))))))))
	// one alternative outside; alternatives of constructors inside
	wantPass(t, cas(cas(s, "y", conAlt("Nil", "", lit(1)), conAlt("Cons", "a b", pair(a, b))), "x", other(app(f, x, x))),
		let1("t#1", lam("t#2", app(f, n("2"), n("2"))), cas(s, "y",
			conAlt("Nil", "", cas(lit(1), "t#3", other(app(n("1"), n("3"))))),
			conAlt("Cons", "a b", cas(pair(a, b), "t#4", other(app(n("1"), n("4"))))))))
	// nothing of it is simplified again: neither a Lam in a Lam, nor a Case of a Lit
	wantPass(t, cas(choice(litAlt(1, lit(5)), other(lit(6))), "x", litAlt(5, lam("a", x)), litAlt(6, s)),
		let1("t#1", lam("t#2", lam("a", n("2"))), let1("t#3", lam("t#4", s), choice(
			litAlt(1, cas(lit(5), "t#5", litAlt(5, app(n("1"), n("5"))), litAlt(6, app(n("3"), n("5"))))),
			other(cas(lit(6), "t#6", litAlt(5, app(n("1"), n("6"))), litAlt(6, app(n("3"), n("6")))))))))
	// a Body that is something else
	for _, e := range []api.Expr{s, get(), add(s, lit(1)), app(f, s), lam("a", a), cas(s, "a", other(a)), app(f, raise())} {
		wantSame(t, cas(choice(litAlt(1, lit(5)), other(e)), "x", other(x)))
		wantSame(t, cas(choice(litAlt(1, e), litAlt(2, con("Nil")), other(raise())), "x", litAlt(5, x), other(s)))
	}
	// Bodies that become known: by their own rules, or by what is around
	wantPass(t, cas(choice(litAlt(1, add(lit(2), lit(3))), other(app(raise(), s))), "x", other(s)),
		let1("t#1", lam("t#2", s), choice(litAlt(1, cas(lit(5), "t#3", other(app(n("1"), n("3"))))), other(cas(raise(), "t#4", other(app(n("1"), n("4"))))))))
	wantPass(t, cas(let1("a", lit(4), choice(litAlt(1, a), other(a))), "x", other(s)),
		let1("t#1", lam("t#2", s), choice(litAlt(1, cas(lit(4), "t#3", other(app(n("1"), n("3"))))), other(cas(lit(4), "t#4", other(app(n("1"), n("4"))))))))
}

// P14.1: Case, 7 and 8: of a Lam, and of Raise.
func TestCaseOfLamAndRaise(t *testing.T) {
	x, s, a := v("x"), v("s"), v("a")
	wantPass(t, cas(lam("a", a), "x", other(app(x, x))), let1("x", lam("a", a), app(x, x)))
	wantPass(t, cas(lam("a b", a), "x", other(s)), let1("x", lam("a b", a), s))
	wantPass(t, cas(lam("a", lam("b", a)), "x", other(x)), let1("x", lam("a b", a), x))
	wantPass(t, cas(lam("a", a), "x", litAlt(1, s), other(x)), let1("x", lam("a", a), x))
	wantPass(t, cas(lam("a", a), "x", conAlt("Nil", "", s), other(x)), let1("x", lam("a", a), x))
	wantSame(t, cas(lam("a", a), "x", litAlt(1, x)))
	wantSame(t, cas(lam("a", a), "x", conAlt("Nil", "", x), conAlt("Cons", "b c", s)))
	wantPass(t, cas(raise(), "x", other(x)), raise())
	wantPass(t, cas(raise(), "x", litAlt(1, s), litAlt(2, x)), raise())
	wantPass(t, cas(cas(raise(), "y", other(v("y"))), "x", conAlt("Nil", "", s)), raise())
	// no rule for other values
	for _, e := range []api.Expr{get(), prim(api.Put, s), prim(api.Quot, lit(1), lit(0)), app(v("f"), s), s} {
		wantSame(t, cas(e, "x", litAlt(1, x), other(s)))
		wantSame(t, cas(e, "x", other(x)))
	}
}
