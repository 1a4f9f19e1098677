package simplify_test

import (
	"math"
	"slices"
	"testing"

	"teasel/api"
	"teasel/core"
	"teasel/simplify"
)

// The chapter's example.
func TestExample(t *testing.T) {
	main := func(e api.Expr) api.Program { return program(bind(api.Main, lam("s", e))) }
	p := main(cas(add(lit(1), lit(2)), "x", litAlt(3, con(api.Box, v("x"))), other(raise())))
	stages := []api.Program{p, main(let1("x", lit(3), con(api.Box, v("x")))), main(con(api.Box, lit(3)))}
	for i, stage := range stages {
		next := stages[min(i+1, 2)]
		wantBinds(t, stage, next.Binds...)
		wantRun(t, p, i, stage)
	}
	for _, passes := range []int{3, 4, 19, 20} {
		wantRun(t, p, passes, stages[2])
	}
}

// wantRun holds what a program is behind so many passes.
func wantRun(t *testing.T, p api.Program, passes int, want api.Program) {
	t.Helper()
	if q, errno := simplify.Run(p, passes); errno != api.OK || !equalPrograms(q, want) {
		t.Errorf("%d passes of %s: %v\ngot  %s\nwant %s", passes, sayProgram(p), errno, sayProgram(q), sayProgram(want))
	}
}

// P14.1: Case, 3, with the Binds whose expressions are shapes in the program.
func TestKnownBinds(t *testing.T) {
	a, b, s := v("a"), v("b"), v("s")
	view := cas(v("M.k"), "x", conAlt("Pair", "a b", app(b, a, v("x"))), other(s))
	with := func(e, body api.Expr) api.Program { return program(boxed(app(v("M.k"), body)), bind("M.k", e)) }
	want := func(e, body api.Expr) {
		t.Helper()
		wantBinds(t, with(e, view), with(e, body).Binds...)
	}
	want(pair(v(api.Main), lit(2)), app(lit(2), v(api.Main), v("M.k")))
	want(pair(lit(1), v("M.k")), app(v("M.k"), lit(1), v("M.k")))
	want(con("Nil"), s)
	for _, e := range []api.Expr{pair(get(), lit(1)), lam("g", v("g")), get(), app(v(api.Main), lit(1)), v("M.k")} {
		want(e, view)
	}
	// in all Binds, earlier and later ones, and in its own
	binds := func(e api.Expr) []api.Bind {
		return []api.Bind{bind("M.a", lam("g", app(v("M.c"), e))), bind("M.k", pair(v("M.a"), v("M.c"))), bind("M.c", lam("h", v("M.a"))), bind(api.Main, v("M.c"))}
	}
	wantBinds(t, program(binds(cas(v("M.k"), "x", conAlt("Pair", "a b", app(b, a))))...), binds(app(v("M.c"), v("M.a")))[0], binds(a)[2], binds(a)[3])
	wantBinds(t, program(bind(api.Main, con(api.Box, v("M.k"))), bind("M.k", let1("g", con(api.Box, v("M.k")), cas(v("M.k"), "x", other(app(v("g"), v("g"))))))),
		bind(api.Main, con(api.Box, v("M.k"))), bind("M.k", let1("g", con(api.Box, v("M.k")), cas(v("M.k"), "x", other(app(v("g"), v("g")))))))
	// main as well
	wantBinds(t, program(bind(api.Main, con(api.Box, v("M.k"))), bind("M.k", cas(v(api.Main), "x", conAlt(api.Box, "a", lam("g", app(a, v("x"))))))),
		bind(api.Main, con(api.Box, v("M.k"))), bind("M.k", lam("g", app(v("M.k"), v(api.Main)))))
	// a number; it goes to the place of its name as well
	wantBinds(t, program(boxed(cas(v("M.k"), "x", litAlt(1, s), other(app(v("x"), v("M.k"))))), bind("M.k", lit(2))), boxed(app(lit(2), lit(2))))
	// what becomes a shape in this pass is known in the next one
	sum := bind("M.k", pair(add(lit(1), lit(1)), lit(3)))
	p := program(boxed(app(v("M.k"), view)), sum)
	q := with(pair(lit(2), lit(3)), view)
	wantBinds(t, p, q.Binds...)
	wantBinds(t, q, with(pair(lit(2), lit(3)), app(lit(3), lit(2), v("M.k"))).Binds...)
	// what is bound in an expression is more recent
	wantBinds(t, with(con("Nil"), let1("k", con(api.Box, s), app(v("k"), v("k"), cas(v("M.k"), "x", conAlt(api.Box, "a", cas(v("M.k"), "y", conAlt(api.Box, "b", app(a, b)))))))),
		with(con("Nil"), let1("k", con(api.Box, s), app(v("k"), v("k"), cas(v("M.k"), "x", conAlt(api.Box, "a", app(a, a)))))).Binds...)
}

// P14.1: Binds that are not reached are removed.
func TestReached(t *testing.T) {
	a, b, c := v("M.a"), v("M.b"), v("M.c")
	main := bind(api.Main, app(a, lit(1)))
	fa := bind("M.a", lam("x", app(b, v("x"))))
	fb := bind("M.b", lam("y", app(b, v("y"))))
	wantBinds(t, program(main, fa, fb), main, fa, fb)
	wantBinds(t, program(fb, bind("M.c", get()), main, bind("M.d", app(c, a)), fa), fb, main, fa)
	wantBinds(t, program(bind(api.Main, lit(1)), fa, fb), bind(api.Main, lit(1)))
	wantBinds(t, program(bind("M.c", v("M.d")), bind("M.d", c), bind(api.Main, get())), bind(api.Main, get()))
	wantBinds(t, program(bind("M.c", v(api.Main)), bind(api.Main, v(api.Main))), bind(api.Main, v(api.Main)))
	// by what the expressions have become
	wantBinds(t, program(bind(api.Main, app(raise(), a)), fa, fb), bind(api.Main, raise()))
	wantBinds(t, program(bind(api.Main, let1("z", a, b)), fa, fb), bind(api.Main, b), fb)
	wantBinds(t, program(bind(api.Main, app(a, lit(1))), bind("M.a", lam("x", let1("y", b, lit(2)))), bind("M.b", get())), bind(api.Main, app(a, lit(1))), bind("M.a", lam("x", lit(2))))
	// a number does not go to the place of its name ahead of that
	wantBinds(t, program(bind(api.Main, app(a, a)), bind("M.c", lit(1)), bind("M.a", lit(2))), bind(api.Main, app(lit(2), lit(2))))
}

// P14.1: the first Bind that is a number, or another name, goes to the place of its
// name.
func TestRenamed(t *testing.T) {
	a, b, c, main := v("M.a"), v("M.b"), v("M.c"), v(api.Main)
	of := func(e ...api.Expr) api.Bind { return bind(api.Main, lam("s", app(v("s"), pair(e[0], e[1])))) }
	wantBinds(t, program(of(a, a), bind("M.a", lit(3))), of(lit(3), lit(3)))
	wantBinds(t, program(of(a, b), bind("M.a", b), bind("M.b", get())), of(b, b), bind("M.b", get()))
	// one in a pass, the first one
	wantBinds(t, program(of(a, b), bind("M.a", lit(1)), bind("M.b", lit(2))), of(lit(1), b), bind("M.b", lit(2)))
	wantBinds(t, program(of(a, b), bind("M.b", lit(2)), bind("M.a", lit(1))), of(a, lit(2)), bind("M.a", lit(1)))
	wantBinds(t, program(bind("M.c", get()), of(pair(a, c), b), bind("M.a", b), bind("M.b", c)), bind("M.c", get()), of(pair(b, c), b), bind("M.b", c))
	wantBinds(t, program(of(a, b), bind("M.a", b), bind("M.b", a)), of(b, b), bind("M.b", b))
	// in all Binds, and in all that is in them
	wantBinds(t, program(bind("M.b", lam("x", lam("y", app(v("x"), a, cas(a, "z", other(app(v("y"), a))))))), bind("M.a", main), of(b, a), bind("M.c", a)),
		bind("M.b", lam("x y", app(v("x"), main, cas(main, "z", other(app(v("y"), main)))))), of(b, main))
	// its expression may have become that
	wantBinds(t, program(of(a, a), bind("M.a", add(lit(1), lit(2)))), of(lit(3), lit(3)))
	wantBinds(t, program(of(a, c), bind("M.a", let1("x", b, v("x"))), bind("M.b", get()), bind("M.c", raise())), of(b, c), bind("M.b", get()), bind("M.c", raise()))
	// neither itself, nor main, nor anything else
	wantBinds(t, program(of(a, a), bind("M.a", a)), of(a, a), bind("M.a", a))
	wantBinds(t, program(bind(api.Main, lit(3))), bind(api.Main, lit(3)))
	wantBinds(t, program(bind(api.Main, a), bind("M.a", get())), bind(api.Main, a), bind("M.a", get()))
	wantBinds(t, program(bind(api.Main, a), bind("M.a", main)), bind(api.Main, main))
	wantBinds(t, program(bind(api.Main, a), bind("M.a", lit(3))), bind(api.Main, lit(3)))
	wantBinds(t, program(of(a, b), bind("M.a", con("Nil")), bind("M.b", lam("x", lit(1)))), of(a, b), bind("M.a", con("Nil")), bind("M.b", lam("x", lit(1))))
	// not simplified again
	wantBinds(t, program(bind(api.Main, app(a, add(b, lit(1)))), bind("M.a", get()), bind("M.b", lit(1))), bind(api.Main, app(a, add(lit(1), lit(1)))), bind("M.a", get()))
}

// recursive is a Let whose bind is a Let that uses it: its binds go out of the scope
// of the name.
func recursive() api.Expr {
	return let1("a", let1("b", lam("c", app(v("a"), v("c"), v("b"))), con(api.Box, v("b"))), app(v("a"), v("a")))
}

// P14.1: a program that a pass would turn into one that Lint refuses stays.
func TestRefused(t *testing.T) {
	three := add(lit(1), lit(2))
	wantSame(t, recursive())
	p := program(boxed(app(v("f"), recursive(), three)), bind("M.none", lit(1)))
	wantBinds(t, p, p.Binds...)
	wantRun(t, p, 20, p)
	// it changes if what would be wrong is gone
	wantPass(t, app(v("f"), let1("d", recursive(), three)), app(v("f"), lit(3)))
	wantBinds(t, program(boxed(three), bind("M.none", recursive())), boxed(lit(3)))
	wantPass(t, app(raise(), recursive()), raise())
	wantPass(t, cas(lit(1), "d", litAlt(1, three), other(recursive())), let1("d", lit(1), lit(3)))
	// one that the second pass would turn into such a one
	late := func(e api.Expr) api.Expr {
		return let1("a", let1("b", lam("c", app(v("a"), v("c"), v("b"))), e), app(v("a"), v("a")))
	}
	q := program(boxed(late(let1("z", lit(1), con(api.Box, v("b"))))))
	for passes := 1; passes <= 20; passes++ {
		wantRun(t, program(boxed(late(cas(lit(1), "z", other(con(api.Box, v("b"))))))), passes, q)
	}
	// too deep: each group of a Let is a Let
	deep := func(count int) api.Expr {
		e := let(app(v("f"), v("s")))
		for i := range count {
			e.Binds = append(e.Binds, bind(x(i), get()))
			e.Subs[0].Subs = append(e.Subs[0].Subs, v(x(i)), v(x(i)))
		}
		return e
	}
	apart := func(e api.Expr) api.Expr {
		body := e.Subs[0]
		for _, b := range slices.Backward(e.Binds) {
			body = let(body, b)
		}
		return body
	}
	wantPass(t, deep(996), apart(deep(996)))
	wantSame(t, deep(997))
	wantPass(t, let1("d", deep(997), three), lit(3))
	// too great: the alternatives of a Case of a Case
	great := func(inside, outside int) api.Expr {
		e := cas(cas(get(), "y"), "x")
		for i := range inside {
			e.Subs[0].Alts = append(e.Subs[0].Alts, litAlt(i, lit(i)))
		}
		for i := range outside {
			e.Alts = append(e.Alts, litAlt(i, get()))
		}
		return e
	}
	size := func(inside, outside int) int { return 2 + 3*outside + 1 + inside*(2+3*outside) + 1 } // with main
	for _, inside := range []int{50, 100, 5000} {
		outside := (api.MaxNodes - 4 - 2*inside) / 3 / (1 + inside)
		if size(inside, outside) > api.MaxNodes || size(inside, outside+1) <= api.MaxNodes {
			t.Fatal(inside, outside)
		}
		for i, want := range []int{size(inside, outside), core.Size(boxed(great(inside, outside+1)).Expr)} {
			q := pass(t, program(boxed(great(inside, outside+i))))
			if got := core.Size(q.Binds[0].Expr); got != want {
				t.Error(inside, outside+i, got, want)
			}
		}
	}
	// as great as may be: a Let more
	for i, more := range []int{1, 0} {
		e := let(app(v("f"), v("a"), v("a"), v("b"), v("b")), bind("a", get()), bind("b", get()))
		rest := api.MaxNodes - 1 + i - core.Size(boxed(e).Expr)
		e.Subs[0].Subs = append(e.Subs[0].Subs, slices.Repeat([]api.Expr{lit(1)}, rest)...)
		if q := pass(t, program(boxed(e))); core.Size(q.Binds[0].Expr) != core.Size(boxed(e).Expr)+more {
			t.Error(i, core.Size(q.Binds[0].Expr))
		}
	}
	// too deep: each alternative outside is a Let
	if q := pass(t, program(boxed(great(2, 994)))); core.Size(q.Binds[0].Expr) != size(2, 994) || core.Depth(q.Binds[0].Expr) != api.MaxDepth {
		t.Error(core.Size(q.Binds[0].Expr), core.Depth(q.Binds[0].Expr))
	}
	wantSame(t, great(2, 995))
	wantPass(t, let1("d", great(20000, 20000), three), lit(3))
	wantBinds(t, program(boxed(three), bind("M.none", great(20000, 20000))), boxed(lit(3)))
}

// P14.1, P14.2: Lint's errors, with the zero program.
func TestErrors(t *testing.T) {
	main := boxed(lit(1))
	deep := lit(1)
	for range api.MaxDepth {
		deep = con(api.Box, deep)
	}
	great := app(slices.Repeat([]api.Expr{lit(1)}, api.MaxNodes)...)
	wrongCons := program(main)
	wrongCons.Cons = append(wrongCons.Cons, api.Cons{Name: "Nil", Family: 1})
	noCons := program(main)
	noCons.Cons = noCons.Cons[1:]
	for _, c := range []struct {
		p    api.Program
		want api.Errno
	}{
		{program(main, bind("M.a", great)), api.ErrBig}, {program(main, bind("M.a", deep)), api.ErrDeep}, {program(bind(api.Main, great), bind("M.a", deep)), api.ErrBig},
		{program(boxed(api.Expr{})), api.ErrShape}, {program(boxed(api.Expr{Kind: 9})), api.ErrShape}, {program(boxed(api.Expr{Kind: api.Lit, Name: "x"})), api.ErrShape}, {program(boxed(prim(12))), api.ErrShape},
		{wrongCons, api.ErrCons},
		{program(boxed(lam("s", lit(1)))), api.ErrName}, {program(main, bind("", lit(1))), api.ErrName},
		{program(boxed(v("x"))), api.ErrScope}, {program(boxed(app(cas(v("s"), "x", other(lit(1))), v("x")))), api.ErrScope},
		{program(boxed(app(v("s")))), api.ErrArity}, {program(boxed(con("Pair", v("s")))), api.ErrArity}, {program(boxed(let(v("s")))), api.ErrArity}, {noCons, api.ErrArity}, {api.Program{}, api.ErrArity},
		{program(boxed(cas(v("s"), "x"))), api.ErrAlts}, {program(boxed(cas(v("s"), "x", other(lit(1)), litAlt(1, lit(1))))), api.ErrAlts},
		{program(), api.ErrNoMain}, {program(bind("M.a", lit(1))), api.ErrNoMain},
	} {
		if q, errno := simplify.Pass(c.p); errno != c.want || !isZero(q) {
			t.Errorf("Pass: got %v, %v, want %v", q, errno, c.want)
		}
		for _, passes := range []int{-1, 0, 1, 20, 21, math.MaxInt, math.MinInt} { // ahead of ErrArg
			if q, errno := simplify.Run(c.p, passes); errno != c.want || !isZero(q) {
				t.Errorf("Run: got %v, %v, want %v", q, errno, c.want)
			}
		}
	}
}

// P14.2: how many passes there may be.
func TestPasses(t *testing.T) {
	p := program(boxed(add(lit(1), lit(2))), bind("M.none", lit(1)))
	for _, passes := range []int{-1, -20, 21, 22, 1000, math.MaxInt, math.MinInt} {
		if q, errno := simplify.Run(p, passes); errno != api.ErrArg || !isZero(q) {
			t.Errorf("%d: got %v, %v", passes, q, errno)
		}
	}
	wantRun(t, p, 0, p)
	for passes := 1; passes <= 20; passes++ {
		wantRun(t, p, passes, program(boxed(lit(3))))
	}
	// each pass does its part: one name goes in each
	many := func(count int) api.Program {
		p := program(boxed(app(v("f"), v("s"))))
		for i := range count {
			p.Binds = append(p.Binds, bind(x(i), lit(i)))
			p.Binds[0].Expr.Subs[0].Subs[0].Subs = append(p.Binds[0].Expr.Subs[0].Subs[0].Subs, v(x(i)))
		}
		return p
	}
	for _, passes := range []int{0, 1, 2, 19, 20} {
		p := many(25)
		q, errno := simplify.Run(p, passes)
		if errno != api.OK || len(q.Binds) != 26-passes {
			t.Error(passes, errno, len(q.Binds))
		}
		for range passes {
			p = pass(t, p)
		}
		wantRun(t, many(25), passes, p)
	}
	// nothing changes any more, or at all
	same := program(boxed(app(v("f"), v("s"))))
	for passes := range 21 {
		wantRun(t, same, passes, same)
		q, errno := simplify.Run(many(3), passes)
		if want := 4 - min(passes, 3); errno != api.OK || len(q.Binds) != want {
			t.Error(passes, errno, len(q.Binds))
		}
	}
	// the constructors are those of the program, in their order
	p.Cons = append([]api.Cons{{Name: "M.A", Arity: 3, Tag: 6, Family: 7}}, p.Cons...)
	slices.Reverse(p.Cons)
	wantRun(t, p, 0, p)
	wantRun(t, p, 1, api.Program{Cons: p.Cons, Binds: []api.Bind{boxed(lit(3))}})
	wantRun(t, p, 2, api.Program{Cons: p.Cons, Binds: []api.Bind{boxed(lit(3))}})
}
