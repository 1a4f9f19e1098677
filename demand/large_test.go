package demand_test

import (
	"slices"
	"strconv"
	"testing"
	"time"

	"teasel/api"
	"teasel/core"
	"teasel/demand"
)

// x is one of many names.
func x(i int) string { return "x" + strconv.Itoa(i) }

// fresh is one of the names that Run takes, from 0 on.
func fresh(i int) string { return "t#" + strconv.Itoa(i+1) }

// xs is many names.
func xs(count int) []string {
	names := make([]string, count)
	for i := range names {
		names[i] = x(i)
	}
	return names
}

// nested is an expression with others around it, the first one outermost.
func nested(times int, inner api.Expr, around func(i int, e api.Expr) api.Expr) api.Expr {
	for i := times - 1; i >= 0; i-- {
		inner = around(i, inner)
	}
	return inner
}

// wantFirst holds what a great expression demands first, without messages that would
// be too long.
func wantFirst(t *testing.T, what string, e api.Expr, want []string, orders ...api.Order) {
	t.Helper()
	start := time.Now()
	got := demand.First(e, orders...)
	if took := time.Since(start); took > 20*time.Second {
		t.Errorf("%s took %v", what, took)
	}
	if !slices.Equal(got, want) {
		t.Errorf("%s: another list of %d names", what, len(got))
	}
}

// Great expressions, beyond what a program may have.
func TestGreatFirst(t *testing.T) {
	const count = 1 << 18
	names := xs(count)
	sum := sumOf(names)
	wantFirst(t, "a Prim", sum, names)
	wantFirst(t, "a Prim twice", add(sum, sum), names)
	args := app(v("f"))
	numbers := make([]int, count)
	for i := range names {
		args.Subs, numbers[i] = append(args.Subs, v(names[i])), count-1-i
	}
	backward := slices.Clone(names)
	slices.Reverse(backward)
	wantFirst(t, "an App", args, backward, order("f", count, numbers...))
	wantFirst(t, "an App", args, names[:1], order("f", 7, slices.Repeat([]int{0}, count)...))
	wantFirst(t, "an App", app(v("f"), sum, v("z")), append(names[:count:count], "z"), order("f", 2, append(slices.Repeat([]int{0}, count), 1)...))
	calls := nested(1<<15, v("z"), func(i int, e api.Expr) api.Expr { return app(v("f"), v("z"), e) })
	wantFirst(t, "Apps", calls, []string{"z"}, order("f", 2, slices.Repeat([]int{0}, count)...))
	alts := cas(sum, "k")
	for i := range names {
		alts.Alts = append(alts.Alts, litAlt(i, v("z")))
	}
	wantFirst(t, "a Case", alts, append(names[:count:count], "z"))
	for i := range names {
		alts.Alts[i].Body = add(v("k"), add(v(x(i)), v("y")))
	}
	wantFirst(t, "a Case", alts, append(names[:count:count], "y"))
	binds := make([]api.Bind, count)
	for i := range binds {
		binds[i] = bind("b"+x(i), lit(i))
	}
	wantFirst(t, "a Let", let(add(sum, add(v("b"+x(7)), v("z"))), binds...), names)
	orders := make([]api.Order, count)
	for i := range orders {
		orders[i] = order(x(i), 1, 0)
	}
	wantFirst(t, "orders", app(v(x(count-1)), v("z")), []string{"z"}, orders...)
}

// Deep expressions, with long lists in them.
func TestDeepLists(t *testing.T) {
	const levels = 1<<16 - 100
	names := xs(1 << 18)
	sum := sumOf(names)
	y := func(i int) string { return "y" + strconv.Itoa(i) }
	var ys []string
	for i := range levels {
		ys = append(ys, y(i))
	}
	wantFirst(t, "Cases", nested(levels, sum, func(i int, e api.Expr) api.Expr { return cas(v(y(i)), "k"+x(i), other(e)) }), append(slices.Clone(ys), names...))
	wantFirst(t, "Cases of names", nested(levels, sum, func(i int, e api.Expr) api.Expr {
		return cas(v(y(i)), "k"+x(i), conAlt("Pair", "a"+x(i)+" b"+x(i), e))
	}), append(slices.Clone(ys), names...))
	wantFirst(t, "Lets", nested(levels, sum, func(i int, e api.Expr) api.Expr { return let1(y(i), lit(1), e) }), names)
	wantFirst(t, "Prims", nested(levels, sum, func(i int, e api.Expr) api.Expr { return add(v(y(i)), e) }), append(slices.Clone(ys), names...))
	wantFirst(t, "Prims", nested(levels, sum, func(i int, e api.Expr) api.Expr { return add(e, v(y(levels-1-i))) }), append(slices.Clone(names), ys...))
	wantFirst(t, "calls", nested(levels, sum, func(i int, e api.Expr) api.Expr { return app(v("f"), e, v(y(i))) }), append(slices.Clone(ys), names...), order("f", 2, 1, 0))
	wantFirst(t, "alternatives", nested(levels, sum, func(i int, e api.Expr) api.Expr {
		return cas(v(y(i)), "k"+x(i), litAlt(1, add(v("z"), e)), other(v("z")))
	}), []string{y(0), "z"})
	// many long lists that begin in the same way
	var tree func(levels int) api.Expr
	tree = func(levels int) api.Expr {
		if levels == 0 {
			return sumOf(xs(1 << 8))
		}
		return cas(v("y"), "k", litAlt(1, tree(levels-1)), other(tree(levels-1)))
	}
	wantFirst(t, "a tree", tree(12), append([]string{"y"}, xs(1<<8)...))
}

// timed is what Run and Orders answer for a great program, which must not take long.
func timed(t *testing.T, what string, p api.Program) (api.Program, []api.Order) {
	t.Helper()
	if errno := core.Lint(p); errno != api.OK {
		t.Fatalf("%s: Lint: %v", what, errno)
	}
	start := time.Now()
	orders, _ := demand.Orders(p)
	q := changed(t, p)
	if took := time.Since(start); took > 20*time.Second {
		t.Errorf("%s took %v", what, took)
	}
	return q, orders
}

// wantRun holds what Run makes of a great program, without messages that would be
// too long.
func wantRun(t *testing.T, what string, p, want api.Program) {
	t.Helper()
	if q, _ := timed(t, what, p); !equalPrograms(q, want) {
		t.Errorf("%s: another program", what)
	}
}

const most = 990 // levels below those of a boxed main

// Programs as great as may be, in which much stands in many Lets.
func TestGreatPrograms(t *testing.T) {
	great := func(e api.Expr) api.Program {
		p := program(append(functions(), boxed(e))...)
		rest := app(v("M.none"))
		for range api.MaxNodes - total(p) - 2 {
			rest.Subs = append(rest.Subs, lit(1))
		}
		p.Binds = append(p.Binds, bind("M.rest", rest))
		return p
	}
	same := func(what string, e api.Expr) {
		t.Helper()
		p := great(e)
		wantRun(t, what, p, p)
	}
	lets := func(r func(i int) api.Expr, body api.Expr) api.Expr {
		return nested(most-20, body, func(i int, e api.Expr) api.Expr { return let1(x(i), r(i), e) })
	}
	gets := func(i int) api.Expr { return get() }
	wide := app(v("f"))
	for i := range 90000 {
		wide.Subs = append(wide.Subs, v(x(i%900)))
	}
	same("Lets", lets(gets, wide))
	same("Lets", lets(gets, cas(lit(1), "k", other(wide))))
	same("Lets", lets(gets, sumOf(append([]string{"s"}, xs(900)...))))
	names := slices.Repeat(xs(900), 40)
	same("Lets", lets(gets, cas(lit(1), "k", litAlt(1, sumOf(append([]string{"s"}, names...))), other(lit(2)))))
	same("Lets", lets(gets, cas(lit(1), "k", litAlt(1, sumOf(names)), other(v("s")))))
	p := program(append(functions(), boxed(lets(gets, sumOf(names))))...)
	inner := nested(most-21, sumOf(names), func(i int, e api.Expr) api.Expr { return let1(x(1+i), get(), e) })
	wantRun(t, "Lets", p, program(append(functions(), boxed(ahead(get(), x(0), inner)))...))
	binds := let(v("s"))
	for i := range 20000 {
		binds.Binds = append(binds.Binds, bind("z"+x(i), lit(1)))
	}
	same("Lets", lets(gets, cas(lit(1), "k", other(binds))))
	// recursive ones
	same("Lets", lets(func(i int) api.Expr { return app(v(x(i)), lit(1)) }, wide))
	same("Lets", nested(most/2-20, v("s"), func(i int, e api.Expr) api.Expr { return let1(x(i), add(e, v(x(i))), v(x(i))) }))
}

// Programs in which what is evaluated ahead is great, or deep.
func TestGreatBinds(t *testing.T) {
	deep := func(inner api.Expr) (api.Expr, api.Expr) {
		from := nested(most-20, inner, func(i int, e api.Expr) api.Expr { return let1(x(i), e, v(x(i))) })
		to := nested(most-20, inner, func(i int, e api.Expr) api.Expr { return ahead(e, x(i), v(x(i))) })
		return from, to
	}
	plain := app(slices.Repeat([]api.Expr{v("f")}, 90000)...)
	from, to := deep(plain)
	wantRun(t, "Binds", program(boxed(from)), program(boxed(to)))
	// calls in calls
	from = nested(300, lit(1), func(i int, e api.Expr) api.Expr { return app(v("M.one"), lit(i), e) })
	to = app(v("M.one"), lit(299), lit(1))
	for i := range 299 {
		to = ahead(to, fresh(i), app(v("M.one"), lit(298-i), v(fresh(i))))
	}
	wantRun(t, "calls", program(append(functions(), boxed(from))...), program(append(functions(), boxed(to))...))
	// wide calls behind many Lets
	q, _ := tall(30000)
	q.Binds[1].Expr.Subs[0].Subs[0] = nested(900, q.Binds[1].Expr.Subs[0].Subs[0], func(i int, e api.Expr) api.Expr { return let1("z"+x(i), get(), e) })
	wantRun(t, "a wide call", q, q)
}

// Orders of many functions, in all rounds.
func TestGreatOrders(t *testing.T) {
	p := chain(9000, false)
	_, orders := timed(t, "a chain", p)
	for i, o := range orders[:9000] {
		if (len(o.Numbers) == 1) != (i >= 8980) {
			t.Fatal(i, o)
		}
	}
	names := xs(30000)
	f := api.Expr{Kind: api.Lam, Names: names, Subs: []api.Expr{sumOf(names)}}
	_, orders = timed(t, "a wide one", program(bind("M.f", f), boxed(lit(1))))
	if o := orders[0]; o.Arity != 30000 || len(o.Numbers) != 30000 || o.Numbers[29999] != 29999 {
		t.Error(o.Arity, len(o.Numbers))
	}
	// functions that call the next one with all of their arguments, the other way round
	var binds []api.Bind
	for i := range 40 {
		g := api.Expr{Kind: api.Lam}
		call := app(v("M.f" + strconv.Itoa(i+1)))
		for j := range 1000 {
			g.Names = append(g.Names, x(i)+"."+strconv.Itoa(j))
			call.Subs = append(call.Subs, v(x(i)+"."+strconv.Itoa(999-j)))
		}
		if g.Subs = []api.Expr{call}; i == 39 {
			g.Subs[0] = sumOf(g.Names)
		}
		binds = append(binds, bind("M.f"+strconv.Itoa(i), g))
	}
	_, orders = timed(t, "wide ones", program(append(binds, boxed(lit(1)))...))
	for i, o := range orders[:40] {
		if i < 20 && len(o.Numbers) > 0 || i >= 20 && (len(o.Numbers) != 1000 || o.Numbers[0] != 999*((39-i)%2)) {
			t.Error(i, len(o.Numbers))
		}
	}
	// Cases with very many alternatives, each with a list
	wide := cas(v("a"), "k")
	for i := range 30000 {
		wide.Alts = append(wide.Alts, litAlt(i, app(v("M.g"), lit(i))))
	}
	_, orders = timed(t, "alternatives", program(bind("M.g", lam("a b", wide)), boxed(lit(1))))
	if len(orders[0].Numbers) != 1 {
		t.Error(orders[0])
	}
}

// Each way to put an expression into another one, as deep as may be.
func TestDeepPrograms(t *testing.T) {
	for what, around := range map[string]func(i int, e api.Expr) api.Expr{
		"Lam":       func(i int, e api.Expr) api.Expr { return lam(x(i), e) },
		"App":       func(i int, e api.Expr) api.Expr { return app(e, lit(1)) },
		"argument":  func(i int, e api.Expr) api.Expr { return app(v("f"), e) },
		"call":      func(i int, e api.Expr) api.Expr { return app(v("M.one"), lit(1), e) },
		"calls":     func(i int, e api.Expr) api.Expr { return app(v("M.two"), e, get()) },
		"Let":       func(i int, e api.Expr) api.Expr { return let1(x(i), get(), add(v(x(i)), e)) },
		"body":      func(i int, e api.Expr) api.Expr { return let1(x(i), get(), e) },
		"Bind":      func(i int, e api.Expr) api.Expr { return let1(x(i), e, add(v(x(i)), v("s"))) },
		"Binds":     func(i int, e api.Expr) api.Expr { return let1(x(i), e, app(v("M.one"), lit(1), v(x(i)))) },
		"recursive": func(i int, e api.Expr) api.Expr { return let1(x(i), add(v(x(i)), e), v(x(i))) },
		"scrutinee": func(i int, e api.Expr) api.Expr { return cas(e, x(i), other(v(x(i)))) },
		"Alt":       func(i int, e api.Expr) api.Expr { return cas(v("s"), x(i), litAlt(i, lit(1)), other(e)) },
		"Con":       func(i int, e api.Expr) api.Expr { return con(api.Box, e) },
		"Prim":      func(i int, e api.Expr) api.Expr { return add(e, lit(1)) },
	} {
		for _, inner := range []api.Expr{lit(1), get(), v("s"), v(x(3)), lam("w", v("w"))} {
			if what == "App" || what == "argument" || what == "call" || what == "calls" || what == "Con" || what == "Prim" {
				inner = app(inner, lit(1))
				if inner.Subs[0].Name == x(3) {
					inner = v("s")
				}
			}
			for _, levels := range []int{300, 900} {
				if core.Depth(around(0, lit(1))) > 2 {
					levels = levels / 2
				}
				p := program(append(functions(), boxed(nested(levels, inner, around)))...)
				if core.Lint(p) != api.OK {
					continue
				}
				wantRun(t, what, p, refRun(p, map[string]int{}))
			}
		}
	}
}

// Great random programs, against the second way.
func TestGreatRandom(t *testing.T) {
	m := &typed{maker: newMaker(8)}
	sizes := 0
	for range 60 {
		p := m.program(20, 9)
		if core.Lint(p) != api.OK || total(p) < 2000 {
			continue
		}
		sizes += total(p)
		if total(p) < 20000 {
			wantRun(t, "random", p, refRun(p, map[string]int{}))
		} else {
			timed(t, "random", p)
		}
	}
	t.Log(sizes)
	if sizes < 100000 {
		t.Error(sizes)
	}
}
