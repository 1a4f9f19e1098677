package simplify_test

import (
	"strconv"
	"testing"

	"teasel/api"
)

// choice is a Case with two Bodies that are known, as y.
func choice(y string) api.Expr { return cas(get(), y, litAlt(1, lit(5)), other(lit(7))) }

// twoCases is a Case of one, as x.
func twoCases(y, x string) api.Expr { return cas(choice(y), x, other(v(x))) }

// joined is what it becomes if the first fresh name is t#n; it takes four.
func joined(y string, n int) api.Expr {
	name := func(i int) string { return "t#" + strconv.Itoa(n+i) }
	call := func(value, i int) api.Expr {
		return cas(lit(value), name(i), other(app(v(name(0)), v(name(i)))))
	}
	return let1(name(0), lam(name(1), v(name(1))), cas(get(), y, litAlt(1, call(5, 2)), other(call(7, 3))))
}

// P14.1: fresh names begin behind the greatest of the program.
func TestFirstFreshName(t *testing.T) {
	for name, first := range map[string]int{
		"t#1": 2, "t#7": 8, "t#99": 100, "t#12345678": 12345679, "t#999999998": 999999999, "t#999999999": 1000000000,
		// others are no such names
		"t#0": 1, "t#01": 1, "t#": 1, "t#1x": 1, "t": 1, "u#4": 1, "T#4": 1, "t#-4": 1, "t#+4": 1, "t##4": 1, "m#4": 1,
		"t#1000000000": 1, "t#9999999999": 1, "t#٣": 1,
	} {
		// wherever it is bound
		wantPass(t, lam(name, twoCases("y", "x")), lam(name, joined("y", first)))
		wantPass(t, let1(name, app(v(name), twoCases("y", "x")), v(name)), let1(name, app(v(name), joined("y", first)), v(name)))
		wantPass(t, cas(v("s"), name, other(twoCases("y", "x"))), cas(v("s"), name, other(joined("y", first))))
		wantPass(t, cas(v("s"), "z", conAlt(api.Box, name, twoCases("y", "x"))), cas(v("s"), "z", conAlt(api.Box, name, joined("y", first))))
		wantPass(t, twoCases(name, "x"), joined(name, first))
		wantBinds(t, program(bind(api.Main, twoCases("y", "x")), bind(name, get())), bind(api.Main, joined("y", first)))
		// also if it is not there any more behind the pass
		wantPass(t, app(v("f"), twoCases("y", name)), app(v("f"), joined("y", first)))
		wantPass(t, app(v("f"), let1(name, lit(1), lit(2)), twoCases("y", "x")), app(v("f"), lit(2), joined("y", first)))
	}
	// the greatest one counts
	wantPass(t, lam("t#3 t#21 t#9", twoCases("t#4", "t#20")), lam("t#3 t#21 t#9", joined("t#4", 22)))
}

// P14.1: they are taken in the order in which expressions are simplified.
func TestOrderOfFreshNames(t *testing.T) {
	f := v("f")
	x := func(i int) api.Expr { return twoCases("y"+strconv.Itoa(i), "x"+strconv.Itoa(i)) }
	to := func(i, n int) api.Expr { return joined("y"+strconv.Itoa(i), n) }
	wantPass(t, app(f, x(1), x(2), x(3)), app(f, to(1, 1), to(2, 5), to(3, 9)))
	wantPass(t, app(x(1), x(2)), let1("t#1", lam("t#2", v("t#2")), app(to(1, 1).Subs[0], to(2, 5))))
	wantPass(t, pair(x(2), x(1)), pair(to(2, 1), to(1, 5)))
	wantPass(t, add(x(1), x(2)), add(to(1, 1), to(2, 5)))
	// the Binds of a Let, then its body
	wantPass(t, let(app(v("b"), v("a"), x(3)), bind("a", app(v("b"), x(1))), bind("b", app(v("a"), x(2)))),
		let(app(v("b"), v("a"), to(3, 9)), bind("a", app(v("b"), to(1, 1))), bind("b", app(v("a"), to(2, 5)))))
	// the scrutinee of a Case, then its alternatives
	wantPass(t, cas(app(f, x(1)), "z", litAlt(1, x(2)), other(x(3))), cas(app(f, to(1, 1)), "z", litAlt(1, to(2, 5)), other(to(3, 9))))
	// the children of a Case of a Case, then itself
	wantPass(t, cas(cas(app(f, x(1)), "y", litAlt(1, con(api.Box, x(2))), other(raise())), "z", litAlt(1, x(3)), other(x(4))),
		let1("t#17", lam("t#18", to(3, 9)), let1("t#19", lam("t#20", to(4, 13)), cas(app(f, to(1, 1)), "y",
			litAlt(1, cas(con(api.Box, to(2, 5)), "t#21", litAlt(1, app(v("t#17"), v("t#21"))), other(app(v("t#19"), v("t#21"))))),
			other(cas(raise(), "t#22", litAlt(1, app(v("t#17"), v("t#22"))), other(app(v("t#19"), v("t#22")))))))))
	// what goes has taken its names: in a bind, an alternative, an argument
	wantPass(t, app(f, let1("a", x(1), lit(1)), x(2)), app(f, lit(1), to(2, 5)))
	wantPass(t, app(f, cas(lit(1), "z", litAlt(1, lit(3)), other(x(1))), x(2)), app(f, let1("z", lit(1), lit(3)), to(2, 5)))
	wantPass(t, app(f, app(raise(), x(1)), x(2)), app(f, raise(), to(2, 5)))
	// the Binds of a program, in their order, also those that are not reached
	wantBinds(t, program(bind("M.a", x(1)), bind("M.b", x(2)), bind(api.Main, app(v("M.c"), x(3))), bind("M.c", x(4))),
		bind(api.Main, app(v("M.c"), to(3, 9))), bind("M.c", to(4, 13)))
	// Names of alternatives count, also where they are very many
	wide := cas(get(), "y")
	for i := range 1000 {
		wide.Alts = append(wide.Alts, litAlt(i, lit(i)))
	}
	many := cas(wide, "z", conAlt("Nil", "", lit(1)), conAlt("Cons", "a b", lit(2)))
	wantPass(t, app(f, let1("d", many, lit(1)), x(1)), app(f, lit(1), to(1, 1+4+1000*3)))
}

// Names with ten digits count for none; so a fresh name may be one that is there,
// which Lint refuses.
func TestFreshNameTwice(t *testing.T) {
	wantSame(t, lam("t#999999999 t#1000000000", twoCases("y", "x")))
	wantSame(t, lam("t#999999999 t#1000000003", twoCases("y", "x")))
	wantPass(t, lam("t#999999999 t#1000000004", twoCases("y", "x")), lam("t#999999999 t#1000000004", joined("y", 1000000000)))
	// as a name that is used where the fresh one would be bound
	wantSame(t, lam("t#999999999", cas(v("s"), "t#1000000000", other(cas(choice("y"), "x", other(v("t#1000000000")))))))
	// it is gone behind the pass, or the fresh one is
	wantPass(t, lam("t#999999999", app(v("f"), twoCases("y", "t#1000000000"))), lam("t#999999999", app(v("f"), joined("y", 1000000000))))
	wantPass(t, lam("t#999999999", let1("t#1000000000", v("s"), app(v("t#1000000000"), twoCases("y", "x")))), lam("t#999999999", app(v("s"), joined("y", 1000000000))))
	wantPass(t, lam("t#999999999 t#1000000000", let1("z", twoCases("y", "x"), lit(1))), lam("t#999999999 t#1000000000", lit(1)))
}
