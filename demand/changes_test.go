package demand_test

import (
	"slices"
	"testing"

	"teasel/api"
	"teasel/core"
	"teasel/demand"
)

// P15.2: a Let of a single bind whose name the body demands first.
func TestLets(t *testing.T) {
	f, s, q, one := v("f"), v("s"), v("q"), lit(1)
	body := add(q, q)
	// of each Kind
	for _, r := range []api.Expr{get(), raise(), add(s, one), prim(api.Put, s), prim(api.Eq, one, one), app(f, s), app(v("M.one"), s, s), cas(s, "k", other(f)), let(f, bind("k", f), bind("j", s)), let1("k", one, get())} {
		want(t, let1("q", r, body), ahead(r, "q", body))
	}
	for _, r := range []api.Expr{s, v("M.value"), one, lam("k", s), con("Nil"), pair(get(), s)} {
		wantSame(t, let1("q", r, body))
	}
	// whatever demands it first
	r := get()
	for _, body := range []api.Expr{
		q, add(q, s), prim(api.Quot, q, s), add(one, q), add(add(one, lit(2)), add(q, s)), prim(api.Put, q), app(q, s), app(app(q, s), s), cas(q, "k", other(s)), cas(one, "k", litAlt(1, q), other(add(q, s))),
		cas(one, "k", other(add(v("k"), q))), let1("k", s, add(q, v("k"))), app(v("M.one"), get(), q), app(v("M.two"), s, q), app(v("M.all"), q, s, s), add(app(v("M.one"), get(), q), s), add(cas(q, "k", other(s)), s),
	} {
		want(t, let1("q", r, body), ahead(r, "q", body))
	}
	// not first, or not at all
	for _, body := range []api.Expr{
		s, one, add(s, q), add(get(), q), prim(api.Quot, s, q), add(prim(api.Quot, one, one), q), pair(q, q), lam("k", q), app(f, q), app(v("M.none"), q, q), app(v("M.two"), q, s), app(v("M.one"), q), app(v("M.one"), q, s), app(v("M.all"), q, s),
		cas(s, "k", other(q)), cas(get(), "k", other(q)), cas(one, "k", litAlt(1, q), other(s)), cas(one, "k", litAlt(1, q), other(add(s, q))), let1("k", one, add(v("k"), q)), raise(), prim(api.Put, get()), let1("k", q, s),
	} {
		wantSame(t, let1("q", r, body))
	}
	// recursive ones
	for _, r := range []api.Expr{app(q, s), app(f, q), add(one, q), cas(s, "k", other(q)), cas(q, "k", other(s)), let1("k", q, s), app(f, lam("k", q)), app(f, con(api.Box, q)), app(f, let1("k", one, app(v("k"), q)))} {
		wantSame(t, let1("q", r, q))
		want(t, app(f, let1("q", r, q), let1("z", get(), v("z"))), app(f, let1("q", r, q), ahead(get(), "z", v("z"))))
	}
	// several binds
	wantSame(t, let(add(q, v("j")), bind("q", get()), bind("j", get())))
	wantSame(t, let(add(v("j"), q), bind("q", get()), bind("j", app(f, q))))
	wantSame(t, let(q, bind("q", get()), bind("j", one)))
	// in all that there is
	from, to := let1("q", r, body), ahead(r, "q", body)
	for _, around := range []func(e api.Expr) api.Expr{
		func(e api.Expr) api.Expr { return lam("k", e) }, func(e api.Expr) api.Expr { return app(e, s) }, func(e api.Expr) api.Expr { return app(f, s, e) }, func(e api.Expr) api.Expr { return app(v("M.none"), e, e) }, func(e api.Expr) api.Expr { return pair(s, e) },
		func(e api.Expr) api.Expr { return add(e, s) }, func(e api.Expr) api.Expr { return prim(api.Put, e) }, func(e api.Expr) api.Expr { return let(e, bind("k", s), bind("j", s)) }, func(e api.Expr) api.Expr { return let(s, bind("k", e), bind("j", s)) },
		func(e api.Expr) api.Expr { return let(s, bind("k", s), bind("j", e)) }, func(e api.Expr) api.Expr { return cas(e, "k", other(s)) }, func(e api.Expr) api.Expr { return cas(s, "k", litAlt(1, s), litAlt(2, e), other(s)) }, func(e api.Expr) api.Expr { return cas(s, "k", conAlt("Pair", "i j", e), other(s)) },
	} {
		if core.Lint(program(append(functions(), boxed(around(from)))...)) == api.OK { // not where its names would be there twice
			want(t, around(from), around(to))
		}
	}
}

// P15.2: Lets in one another: children come first.
func TestNestedLets(t *testing.T) {
	f, s, p, q, one := v("f"), v("s"), v("p"), v("q"), lit(1)
	sum := add(q, p)
	// the body, in which the inner name has come first
	want(t, let1("p", get(), let1("q", get(), sum)), let1("p", get(), ahead(get(), "q", sum)))
	want(t, let1("p", get(), let1("q", get(), add(p, q))), ahead(get(), "p", let1("q", get(), add(p, q))))
	want(t, let1("p", get(), let1("q", add(p, one), sum)), ahead(get(), "p", ahead(add(p, one), "q", sum)))
	want(t, let1("p", get(), let1("q", add(one, p), q)), ahead(get(), "p", ahead(add(one, p), "q", q)))
	want(t, let1("p", get(), let1("q", app(f, p), q)), let1("p", get(), ahead(app(f, p), "q", q)))
	want(t, let1("p", get(), let1("q", app(p, s), q)), ahead(get(), "p", ahead(app(p, s), "q", q)))
	// while it was a Let, its name stood first, but bound
	want(t, let1("p", get(), let1("q", lam("k", p), sum)), let1("p", get(), let1("q", lam("k", p), sum)))
	want(t, let1("p", get(), let1("q", add(s, p), sum)), let1("p", get(), ahead(add(s, p), "q", sum)))
	// r, which stays of a Kind that counts
	want(t, let1("p", let1("q", get(), q), p), ahead(ahead(get(), "q", q), "p", p))
	want(t, let1("p", let1("q", one, q), p), ahead(let1("q", one, q), "p", p))
	want(t, let1("p", app(v("M.one"), s, get()), p), ahead(ahead(get(), "t#1", app(v("M.one"), s, v("t#1"))), "p", p))
	// the body's App
	want(t, let1("p", get(), app(v("M.one"), s, add(p, one))), ahead(get(), "p", ahead(add(p, one), "t#1", app(v("M.one"), s, v("t#1")))))
	want(t, let1("p", get(), app(v("M.two"), p, get())), let1("p", get(), ahead(get(), "t#1", app(v("M.two"), p, v("t#1")))))
	want(t, let1("p", get(), app(v("M.two"), p, one)), ahead(get(), "p", app(v("M.two"), p, one)))
}

// P15.2: an App of a name that has an order.
func TestApps(t *testing.T) {
	s, one, nil_ := v("s"), lit(1), con("Nil")
	call := func(name string, args ...api.Expr) api.Expr {
		return app(append([]api.Expr{v("M." + name)}, args...)...)
	}
	a, b, c := v("t#1"), v("t#2"), v("t#3")
	// each Kind of argument
	for _, e := range []api.Expr{get(), raise(), add(s, one), prim(api.Put, s), app(s, one), call("none", s, s), call("all", s), let1("k", one, s), let1("k", one, pair(v("k"), s)), cas(s, "k", other(one)), cas(s, "k", other(lam("j", one)))} {
		want(t, call("one", s, e), ahead(e, "t#1", call("one", s, a)))
		want(t, call("all", one, e, lit(2)), ahead(e, "t#1", call("all", one, a, lit(2))))
		wantSame(t, call("one", e, s))
		wantSame(t, call("none", e, e2(e)))
	}
	for _, e := range []api.Expr{one, lit(-4), lam("k", get()), nil_, pair(get(), s)} {
		wantSame(t, call("one", get(), e))
		want(t, call("two", get(), e), ahead(get(), "t#1", call("two", a, e)))
		want(t, call("all", get(), e, get()), ahead(get(), "t#1", ahead(get(), "t#2", call("all", a, e, b))))
	}
	for _, e := range []api.Expr{s, v("M.value"), v("M.none"), v(api.Main)} {
		wantSame(t, call("one", get(), e))
		wantSame(t, call("two", get(), e)) // it is the first one to be looked at
		wantSame(t, call("all", e, get(), get()))
		want(t, call("all", get(), e, get()), ahead(get(), "t#1", call("all", a, e, get())))
		want(t, call("all", get(), one, e), ahead(get(), "t#1", call("all", a, one, e)))
		want(t, call("all", get(), add(one, one), e), ahead(get(), "t#1", ahead(add(one, one), "t#2", call("all", a, b, e))))
	}
	wantSame(t, call("all", one, nil_, s))
	// the first number outermost
	want(t, call("two", get(), add(one, s)), ahead(add(one, s), "t#1", ahead(get(), "t#2", call("two", b, a))))
	want(t, call("all", get(), raise(), add(s, one)), ahead(get(), "t#1", ahead(raise(), "t#2", ahead(add(s, one), "t#3", call("all", a, b, c)))))
	// more arguments than the Arity, and fewer
	want(t, call("one", get(), get(), get(), s), ahead(get(), "t#1", call("one", get(), a, get(), s)))
	want(t, call("two", get(), get(), raise()), ahead(get(), "t#1", ahead(get(), "t#2", call("two", b, a, raise()))))
	wantSame(t, call("one", get()))
	wantSame(t, call("all", get(), get()))
	want(t, app(call("one", get(), get()), get()), app(ahead(get(), "t#1", call("one", get(), a)), get()))
	wantSame(t, app(call("one", get()), get()))
	// no order
	wantSame(t, call("value", get(), get()))
	wantSame(t, app(v("f"), get(), get()))
	wantSame(t, app(v(api.Main), get(), get()))
	wantSame(t, app(lam("k", v("k")), get()))
	wantSame(t, app(let1("k", lam("j", v("j")), v("k")), get()))
	wantSame(t, let1("k", lam("j", v("j")), app(v("k"), get())))
	wantSame(t, con("Pair", v("M.one"), get()))
	// the chapter's example
	fb := lam("p q", cas(prim(api.Le, v("p"), lit(0)), "x", conAlt(api.True, "", v("q")), conAlt(api.False, "", add(v("q"), v("p")))))
	from := app(v("F"), get(), app(v("G"), one))
	to := ahead(get(), "t#1", ahead(app(v("G"), one), "t#2", app(v("F"), a, b)))
	p := program(bind("F", fb), bind("G", lam("r", con("Nil"))), boxed(from))
	wantBinds(t, p, bind("F", fb), p.Binds[1], boxed(to))
	wantOrders(t, p, order("F", 2, 0, 1), order("G", 1), order(api.Main, 2))
}

// e2 is the same expression with other binders.
func e2(e api.Expr) api.Expr {
	return renamed(e, func(name string) string {
		if name == "k" || name == "j" {
			return name + "2"
		}
		return name
	})
}

// renamed is an expression with other names.
func renamed(e api.Expr, to func(name string) string) api.Expr {
	all := func(names []string) []string {
		names = slices.Clone(names)
		for i := range names {
			names[i] = to(names[i])
		}
		return names
	}
	if e.Kind == api.Var || e.Kind == api.Case {
		e.Name = to(e.Name)
	}
	e.Names, e.Subs, e.Binds, e.Alts = all(e.Names), slices.Clone(e.Subs), slices.Clone(e.Binds), slices.Clone(e.Alts)
	for i := range e.Subs {
		e.Subs[i] = renamed(e.Subs[i], to)
	}
	for i := range e.Binds {
		e.Binds[i] = bind(to(e.Binds[i].Name), renamed(e.Binds[i].Expr, to))
	}
	for i := range e.Alts {
		e.Alts[i].Names, e.Alts[i].Body = all(e.Alts[i].Names), renamed(e.Alts[i].Body, to)
	}
	return e
}

// P15.2: which fresh names there are, and in which order they are taken.
func TestFresh(t *testing.T) {
	s, f := v("s"), v("f")
	one := func(e api.Expr) api.Expr { return app(v("M.one"), lit(1), e) }
	done := func(name string) api.Expr { return ahead(get(), name, one(v(name))) }
	g := one(get())
	want(t, app(f, g, g), app(f, done("t#1"), done("t#2")))
	want(t, pair(pair(s, g), pair(g, g)), pair(pair(s, done("t#1")), pair(done("t#2"), done("t#3"))))
	// Subs ahead of Binds, Binds ahead of one another, Subs ahead of Alts
	want(t, let(app(f, g), bind("k", app(f, g)), bind("j", lam("i", g))), let(app(f, done("t#1")), bind("k", app(f, done("t#2"))), bind("j", lam("i", done("t#3")))))
	want(t, cas(g, "k", litAlt(1, g), litAlt(2, pair(g, s)), other(g)), cas(done("t#1"), "k", litAlt(1, done("t#2")), litAlt(2, pair(done("t#3"), s)), other(done("t#4"))))
	// children ahead of themselves, in the order of the arguments, not of the numbers
	two := func(a, b api.Expr) api.Expr { return app(v("M.two"), a, b) }
	want(t, one(g), ahead(done("t#1"), "t#2", one(v("t#2"))))
	want(t, two(g, app(f, g)), ahead(app(f, done("t#2")), "t#3", ahead(done("t#1"), "t#4", two(v("t#4"), v("t#3")))))
	want(t, app(v("M.one"), g, lit(1), g), app(v("M.one"), done("t#1"), lit(1), done("t#2")))
	// Binds in order
	p := program(bind("B", app(v("M.one"), s0, get())), functions()[1], bind("A", lam("k", one(get()))), boxed(g))
	wantBinds(t, p, bind("B", ahead(get(), "t#1", app(v("M.one"), s0, v("t#1")))), functions()[1], bind("A", lam("k", done("t#2"))), boxed(done("t#3")))
	// behind those that there are
	for _, c := range []struct{ there, next string }{{"t#1", "t#2"}, {"t#7", "t#8"}, {"t#99", "t#100"}, {"t#07", "t#1"}, {"t#0", "t#1"}, {"t7", "t#1"}, {"m#7", "t#1"}, {"t#x", "t#1"}, {"t#999999999", "t#1000000000"}, {"t#1000000000", "t#1"}} {
		want(t, app(f, g, lam(c.there, g), lam("z", s)), app(f, done(c.next), lam(c.there, done(after(c.next))), lam("z", s)))
		want(t, app(f, let1(c.there, lit(1), v(c.there)), g), app(f, let1(c.there, lit(1), v(c.there)), done(c.next)))
		p := program(append(functions(), bind(c.there, lit(1)), boxed(g))...)
		wantBinds(t, p, append(functions(), bind(c.there, lit(1)), boxed(done(c.next)))...)
	}
}

// s0 is a name at the top of all programs.
var s0 = v(api.Main)

// after is the fresh name after one.
func after(name string) string {
	digits := []byte(name)
	for i := len(digits) - 1; ; i-- {
		if digits[i] < '9' {
			digits[i]++
			return string(digits)
		}
		digits[i] = '0'
	}
}

// P15.2: a program that would become one that Lint refuses stays.
func TestRefused(t *testing.T) {
	f, g := v("f"), app(v("M.one"), lit(1), get())
	// a name that is there already, as it does not count for Next
	wantSame(t, app(f, g, lam("t#999999999", lit(1)), lam("t#1000000000", lit(1))))
	wantSame(t, app(f, let1("q", get(), v("q")), g, lam("t#999999998", lit(1)), lam("t#999999999 t#1000000000", lit(1))))
	want(t, app(f, let1("q", get(), v("q")), lam("t#999999999 t#1000000000", lit(1))), app(f, ahead(get(), "q", v("q")), lam("t#999999999 t#1000000000", lit(1))))
	want(t, app(f, g, lam("t#999999998", lit(1)), lam("t#1000000000", lit(1))), app(f, ahead(get(), "t#999999999", app(v("M.one"), lit(1), v("t#999999999"))), lam("t#999999998", lit(1)), lam("t#1000000000", lit(1))))
	// too deep
	for count, want := range map[int]api.Errno{10: api.OK, api.MaxDepth - 4: api.OK, api.MaxDepth - 3: api.ErrDeep, 30000: api.ErrBig} {
		p, q := tall(count) // main's Lam and Con, the App and its Vars are four levels
		if errno := core.Lint(q); errno != want || core.Lint(p) != api.OK {
			t.Error(count, errno)
		}
		if want != api.OK {
			q = p
		}
		if !equalPrograms(changed(t, p), q) {
			t.Error(count)
		}
	}
	// too great: two expressions more for each argument
	for i := range 5 {
		p := program(append(functions(), boxed(app(f, g, g)))...)
		body := &p.Binds[len(p.Binds)-1].Expr.Subs[0].Subs[0]
		body.Subs = append(body.Subs, slices.Repeat([]api.Expr{lit(1)}, api.MaxNodes-i-total(p))...)
		more := 4
		if i < 4 {
			more = 0
		}
		if got := total(changed(t, p)); got != api.MaxNodes-i+more {
			t.Error(i, got)
		}
	}
}

// total is how many expressions a program has.
func total(p api.Program) int {
	size := 0
	for _, b := range p.Binds {
		size += core.Size(b.Expr)
	}
	return size
}

// tall is a call with so many arguments, each of which is evaluated ahead, and what
// it becomes.
func tall(count int) (api.Program, api.Program) {
	names := make([]string, count)
	call, to := app(v("M.f")), app(v("M.f"))
	for i := range names {
		names[i] = x(i)
		call.Subs, to.Subs = append(call.Subs, get()), append(to.Subs, v(fresh(i)))
	}
	for i := count - 1; i >= 0; i-- {
		to = ahead(get(), fresh(i), to)
	}
	f := bind("M.f", api.Expr{Kind: api.Lam, Names: names, Subs: []api.Expr{sumOf(names)}})
	return program(f, boxed(call)), program(f, boxed(to))
}

// sumOf is a sum of names with few levels.
func sumOf(names []string) api.Expr {
	if len(names) == 1 {
		return v(names[0])
	}
	half := len(names) / 2
	return add(sumOf(names[:half]), sumOf(names[half:]))
}

// P15.1, P15.2: Lint's errors, with no orders and the zero program.
func TestErrors(t *testing.T) {
	main := boxed(lit(1))
	deep := lit(1)
	for range api.MaxDepth {
		deep = con(api.Box, deep)
	}
	great := app(slices.Repeat([]api.Expr{lit(1)}, api.MaxNodes)...)
	wrongCons := program(main)
	wrongCons.Cons = append(wrongCons.Cons, api.Cons{Name: "Nil", Family: 1})
	noCons := program(main)
	noCons.Cons = noCons.Cons[1:]
	for _, c := range []struct {
		p    api.Program
		want api.Errno
	}{
		{program(main, bind("M.a", great)), api.ErrBig}, {program(main, bind("M.a", deep)), api.ErrDeep}, {program(bind(api.Main, great), bind("M.a", deep)), api.ErrBig},
		{program(boxed(api.Expr{})), api.ErrShape}, {program(boxed(api.Expr{Kind: 9})), api.ErrShape}, {program(boxed(api.Expr{Kind: api.Lit, Name: "x"})), api.ErrShape}, {program(boxed(prim(12))), api.ErrShape},
		{wrongCons, api.ErrCons},
		{program(boxed(lam("s", lit(1)))), api.ErrName}, {program(main, bind("", lit(1))), api.ErrName},
		{program(boxed(v("x"))), api.ErrScope}, {program(boxed(app(cas(v("s"), "x", other(lit(1))), v("x")))), api.ErrScope},
		{program(boxed(app(v("s")))), api.ErrArity}, {program(boxed(con("Pair", v("s")))), api.ErrArity}, {program(boxed(let(v("s")))), api.ErrArity}, {program(bind(api.Main, lam("", v(api.Main)))), api.ErrArity}, {noCons, api.ErrArity}, {api.Program{}, api.ErrArity},
		{program(boxed(cas(v("s"), "x"))), api.ErrAlts}, {program(boxed(cas(v("s"), "x", other(lit(1)), litAlt(1, lit(1))))), api.ErrAlts},
		{program(), api.ErrNoMain}, {program(bind("M.a", lit(1))), api.ErrNoMain},
	} {
		if orders, errno := demand.Orders(c.p); errno != c.want || len(orders) != 0 {
			t.Errorf("Orders: got %v, %v, want %v", orders, errno, c.want)
		}
		if q, errno := demand.Run(c.p); errno != c.want || !isZero(q) {
			t.Errorf("Run: got %v, %v, want %v", q, errno, c.want)
		}
	}
	// the constructors are those of the program, in their order
	p := program(append(functions(), boxed(app(v("M.one"), v("s"), get())))...)
	p.Cons = append([]api.Cons{{Name: "M.A", Arity: 3, Tag: 6, Family: 7}}, p.Cons...)
	slices.Reverse(p.Cons)
	wantBinds(t, p, append(functions(), boxed(ahead(get(), "t#1", app(v("M.one"), v("s"), v("t#1")))))...)
}
