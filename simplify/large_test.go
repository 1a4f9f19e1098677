package simplify_test

import (
	"strconv"
	"testing"
	"time"

	"teasel/api"
	"teasel/core"
	"teasel/simplify"
)

// behind is a program behind so many passes, which must not take long; it holds
// that Lint takes both.
func behind(t *testing.T, what string, p api.Program, passes int) api.Program {
	t.Helper()
	if errno := core.Lint(p); errno != api.OK {
		t.Fatalf("%s: Lint: %v", what, errno)
	}
	start := time.Now()
	q, errno := simplify.Run(p, passes)
	took := time.Since(start)
	if lint := core.Lint(q); errno != api.OK || lint != api.OK {
		t.Fatalf("%s: %v, Lint: %v", what, errno, lint)
	}
	if took > 20*time.Second {
		t.Errorf("%s took %v", what, took)
	}
	return q
}

// wantBehind holds what a program is behind a pass, and 20 of them, without
// messages that would be too long.
func wantBehind(t *testing.T, what string, p, first, last api.Program) {
	t.Helper()
	if q := behind(t, what, p, 1); !equalPrograms(q, first) {
		t.Errorf("%s: another program of %d Binds", what, len(q.Binds))
	}
	if q := behind(t, what, p, 20); !equalPrograms(q, last) {
		t.Errorf("%s: 20 passes: another program of %d Binds", what, len(q.Binds))
	}
}

// nested is an expression with others around it, the first one outermost.
func nested(times int, inner api.Expr, around func(i int, e api.Expr) api.Expr) api.Expr {
	for i := times - 1; i >= 0; i-- {
		inner = around(i, inner)
	}
	return inner
}

// x is one of many names.
func x(i int) string { return "x" + strconv.Itoa(i) }

// binds is x(0) to x(count-1).
func binds(count int, e func(i int) api.Expr) []api.Bind {
	var all []api.Bind
	for i := range count {
		all = append(all, bind(x(i), e(i)))
	}
	return all
}

// wide is an App of so many arguments.
func wide(size int, argument func(i int) api.Expr) api.Expr {
	e := app(v("f"))
	for i := range size {
		e.Subs = append(e.Subs, argument(i))
	}
	return e
}

const most = 990 // levels below those of a boxed main

// What stands in many Lets is neither looked at nor copied for each of them.
func TestManyLets(t *testing.T) {
	names := func(i int) api.Expr { return v(x(i % most)) }
	lets := func(e func(i int) api.Expr, body api.Expr) api.Program {
		return program(boxed(nested(most, body, func(i int, body api.Expr) api.Expr { return let1(x(i), e(i), body) })))
	}
	great := wide(96000, names)
	want := program(boxed(wide(96000, func(i int) api.Expr { return lit(i % most) })))
	wantBehind(t, "numbers", lets(lit, great), want, want)
	want = program(boxed(wide(96000, func(i int) api.Expr { return v("s") })))
	wantBehind(t, "names", lets(func(i int) api.Expr { return v(append(binds(most, lit), bind("s", lit(1)))[(i+most)%(most+1)].Name) }, great), want, want)
	gets := func(i int) api.Expr { return get() }
	p := lets(gets, great)
	wantBehind(t, "used often", p, p, p)
	want = program(boxed(wide(most, gets)))
	wantBehind(t, "used once", lets(gets, wide(most, names)), want, want)
	want = program(boxed(wide(96000, lit)))
	wantBehind(t, "not used", lets(gets, wide(96000, lit)), want, want)
	p = lets(func(i int) api.Expr { return lam("y"+strconv.Itoa(i), v(x(i))) }, great)
	wantBehind(t, "recursive", p, p, p)
	p = lets(func(i int) api.Expr { return pair(lit(i), v("s")) }, wide(20000, func(i int) api.Expr {
		return cas(v(x(i%most)), "y"+strconv.Itoa(i), conAlt("Pair", "a"+strconv.Itoa(i)+" b"+strconv.Itoa(i), v("a"+strconv.Itoa(i))), other(lit(1)))
	}))
	want = program(boxed(wide(20000, func(i int) api.Expr { return lit(i % most) })))
	wantBehind(t, "known", p, want, want)
	p = lets(func(i int) api.Expr { return pair(lit(i), v("s")) }, wide(15000, func(i int) api.Expr {
		return cas(app(v("f"), v(x(i%most))), "y"+strconv.Itoa(i), litAlt(1, v("s")))
	}))
	wantBehind(t, "not known", p, p, p)
}

// Cases with very many names.
func TestManyNames(t *testing.T) {
	name := func(i, j int) string { return "x" + strconv.Itoa(i) + "." + strconv.Itoa(j) }
	cases := func(count int, body api.Expr) api.Expr {
		return nested(count, body, func(i int, e api.Expr) api.Expr {
			c := cas(v("s"), x(i), api.Alt{Kind: api.ConAlt, Name: "Wide", Body: e})
			for j := range api.MaxArity {
				c.Alts[0].Names = append(c.Alts[0].Names, name(i, j))
			}
			return c
		})
	}
	with := func(e api.Expr) api.Program {
		p := program(boxed(e))
		p.Cons = append(p.Cons, api.Cons{Name: "Wide", Arity: api.MaxArity, Family: 1})
		return p
	}
	p := with(cases(most, wide(95000, func(i int) api.Expr { return v(name(i%most, i%api.MaxArity)) })))
	want := with(cases(1, wide(95000, func(i int) api.Expr { return v(name(0, i%api.MaxArity)) })))
	wantBehind(t, "Cases", p, want, want)
	// Lams, and what they are applied to
	lams := nested(most-10, wide(50000, func(i int) api.Expr { return v(name(i%most, i%7)) }), func(i int, e api.Expr) api.Expr {
		made := api.Expr{Kind: api.Lam, Subs: []api.Expr{e}}
		for j := range 1000 {
			made.Names = append(made.Names, name(i, j))
		}
		return made
	})
	for _, i := range []int{0, 10} {
		lams.Subs[0] = api.Expr{Kind: api.Lam, Names: []string{"z" + strconv.Itoa(i)}, Subs: []api.Expr{lams.Subs[0]}}
	}
	lams = nested(10, lams, func(i int, e api.Expr) api.Expr {
		made := api.Expr{Kind: api.Lam, Subs: []api.Expr{e}}
		for j := range 1000 {
			made.Names = append(made.Names, name(most-i-1, j))
		}
		return made
	})
	q := behind(t, "Lams", program(boxed(pair(lit(1), lams))), 20)
	if got := q.Binds[0].Expr.Subs[0].Subs[0].Subs[1]; len(got.Names) != 1000*most+2 || got.Subs[0].Kind != api.App {
		t.Error(len(got.Names))
	}
}

// wideCases is a Case of a Case with so many alternatives.
func wideCases(inside, outside int) api.Expr {
	e := cas(cas(get(), "y"), "x")
	for i := range inside {
		e.Subs[0].Alts = append(e.Subs[0].Alts, litAlt(i, lit(i)))
	}
	for i := range outside {
		e.Alts = append(e.Alts, litAlt(i, get()))
	}
	return e
}

// Cases of Cases that would become far greater than a program may be.
func TestGreatCases(t *testing.T) {
	for _, c := range [][2]int{{2, 1000}, {2, 45000}, {45000, 2}, {30000, 30000}, {1000, 1000}} {
		p := program(boxed(wideCases(c[0], c[1])))
		if c[1] == 2 {
			p = program(boxed(app(v("f"), wideCases(c[0], c[1]), wide(9000, lit))))
		}
		wantBehind(t, "Case", p, p, p)
		// they count for fresh names, although they are not there behind the pass
		p = program(boxed(app(v("f"), let1("d", wideCases(c[0], c[1]), lit(1)), twoCases("w", "z"))))
		want := program(boxed(app(v("f"), lit(1), joined("w", 1+2*c[1]+c[0]))))
		wantBehind(t, "Case", p, want, behind(t, "Case", want, 19))
	}
	// alternatives with many names: some 10^10 fresh ones
	outside := cas(wideCases(40000, 1).Subs[0], "x")
	p := program(boxed(app(v("f"), let1("d", lit(1), lit(2)), twoCases("w", "z"))))
	for i := range 1000 {
		p.Cons = append(p.Cons, api.Cons{Name: "W" + strconv.Itoa(i), Arity: api.MaxArity, Family: 1000, Tag: i})
		a := api.Alt{Kind: api.ConAlt, Name: "W" + strconv.Itoa(i), Body: lit(i)}
		for j := range api.MaxArity {
			a.Names = append(a.Names, x(i)+"."+strconv.Itoa(j))
		}
		outside.Alts = append(outside.Alts, a)
	}
	p.Binds[0].Expr.Subs[0].Subs[0].Subs[1].Binds[0].Expr = outside
	want := api.Program{Cons: p.Cons, Binds: []api.Bind{boxed(app(v("f"), lit(2), joined("w", 1+2000+40000*(1+1000*api.MaxArity))))}}
	wantBehind(t, "names", p, want, behind(t, "names", want, 19))
	// all of them at once: each alternative of a Case is such a Case
	many := cas(v("s"), "m")
	for i := range 30 {
		e := wideCases(1000, 600)
		e.Name, e.Subs[0].Name = "n"+strconv.Itoa(i), "o"+strconv.Itoa(i)
		many.Alts = append(many.Alts, litAlt(i, e))
	}
	p = program(boxed(many))
	wantBehind(t, "Cases", p, p, p)
}

// Lets and programs of many binds.
func TestManyBinds(t *testing.T) {
	const count = 24000
	names := func(i int) api.Expr { return v(x(i)) }
	p := program(boxed(let(wide(count, names), binds(count, func(i int) api.Expr { return get() })...)))
	wantBehind(t, "apart", p, p, p) // as they would be too deep
	p = program(boxed(let(wide(count, names), binds(count, func(i int) api.Expr { return app(v(x((i+1)%count)), v("s")) })...)))
	wantBehind(t, "a circle", p, p, p)
	want := program(boxed(let(v(x(7)), binds(count, func(i int) api.Expr { return app(v(x((i+1)%count)), v("s")) })...)))
	p = program(boxed(let(v(x(7)), append(binds(count, func(i int) api.Expr { return app(v(x((i+1)%count)), v("s")) }), bind("dead", get()))...)))
	wantBehind(t, "a circle and one", p, want, want)
	p = program(append(binds(count, func(i int) api.Expr { return pair(v(x((i+1)%count)), v(x(i))) }), boxed(v(x(1))))...)
	wantBehind(t, "Binds", p, p, p)
	p = program(append(binds(count, func(i int) api.Expr { return pair(lit(i), get()) }), boxed(v(x(1))))...)
	want = program(bind(x(1), pair(lit(1), get())), boxed(v(x(1))))
	wantBehind(t, "Binds that go", p, want, want)
	p = program(append(binds(count, func(i int) api.Expr { return v(x((i + 1) % count)) }), boxed(v(x(0))))...)
	want = program(append(binds(count, func(i int) api.Expr { return v(x((i + 1) % count)) })[20:], boxed(v(x(20))))...)
	want.Binds[count-21].Expr = v(x(20))
	if q := behind(t, "names", p, 20); !equalPrograms(q, want) {
		t.Error("names", len(q.Binds), sayBinds(q.Binds[:2]), sayBinds(q.Binds[len(q.Binds)-2:]))
	}
}

// Each way to put an expression into another one, as deep as may be.
func TestDeep(t *testing.T) {
	one := lit(1)
	for what, around := range map[string]func(i int, e api.Expr) api.Expr{
		"Lam":       func(i int, e api.Expr) api.Expr { return lam(x(i), e) },
		"App":       func(i int, e api.Expr) api.Expr { return app(e, one) },
		"argument":  func(i int, e api.Expr) api.Expr { return app(v("f"), e) },
		"Let":       func(i int, e api.Expr) api.Expr { return let1(x(i), v(x(i)), app(v(x(i)), e)) },
		"body":      func(i int, e api.Expr) api.Expr { return let1(x(i), lam("y"+x(i), v(x(i))), pair(v(x(i)), e)) },
		"Bind":      func(i int, e api.Expr) api.Expr { return let1(x(i), e, app(v(x(i)), v(x(i)))) },
		"Bind once": func(i int, e api.Expr) api.Expr { return let1(x(i), e, v(x(i))) },
		"Bind Con":  func(i int, e api.Expr) api.Expr { return let1(x(i), e, pair(v(x(i)), v(x(i)))) },
		"scrutinee": func(i int, e api.Expr) api.Expr { return cas(e, x(i), other(v(x(i)))) },
		"choice":    func(i int, e api.Expr) api.Expr { return cas(e, x(i), litAlt(i, lit(i+1)), other(lit(0))) },
		"Alt":       func(i int, e api.Expr) api.Expr { return cas(v("s"), x(i), litAlt(i, one), other(e)) },
		"Con":       func(i int, e api.Expr) api.Expr { return con(api.Box, e) },
		"Con taken": func(i int, e api.Expr) api.Expr {
			return cas(con(api.Box, e), x(i), conAlt(api.Box, "y"+x(i), v("y"+x(i))))
		},
		"Prim":    func(i int, e api.Expr) api.Expr { return add(e, one) },
		"entered": func(i int, e api.Expr) api.Expr { return app(lam(x(i), add(v(x(i)), one)), e) },
	} {
		for _, inner := range []api.Expr{one, get(), raise(), v("s"), con("Nil"), lam("w", v("w"))} {
			levels := most / (core.Depth(around(0, one)) - 1)
			p := program(boxed(nested(levels, inner, around)))
			now := p
			for range 2 {
				want := refPass(now, map[string]int{})
				if got := behind(t, what, now, 1); !equalPrograms(got, want) {
					t.Fatalf("%s around %s: another program", what, say(inner))
				}
				now = want
			}
			behind(t, what, p, 20)
		}
	}
}

// Great random programs, against the second way, and of all passes.
func TestGreatRandom(t *testing.T) {
	m := &typed{newMaker(8)}
	sizes := 0
	for range 40 {
		p := m.program(20, 9)
		size := core.Size(let(lit(1), p.Binds...))
		if core.Lint(p) != api.OK || size < 2000 {
			continue
		}
		sizes += size
		if size < 20000 {
			want := refPass(p, map[string]int{})
			if got := behind(t, "random", p, 1); !equalPrograms(got, want) {
				t.Fatal("another program")
			}
		}
		behind(t, "random", p, 20)
	}
	t.Log(sizes)
	if sizes < 100000 {
		t.Error(sizes)
	}
}
