package core_test

import (
	"math"
	"slices"
	"strconv"
	"testing"
	"time"

	"teasel/api"
	"teasel/core"
)

// hold20 holds that something ends within some time.
func hold20(t *testing.T, what string, do func()) {
	t.Helper()
	start := time.Now()
	do()
	if took := time.Since(start); took > 20*time.Second {
		t.Errorf("%s took %v", what, took)
	}
}

// nested is an expression in which the same stands so many times, one in
// another.
func nested(times int, inner api.Expr, around func(api.Expr) api.Expr) api.Expr {
	for range times {
		inner = around(inner)
	}
	return inner
}

// chains is ways to put an expression into another one that has one more level.
func chains() map[string]func(api.Expr) api.Expr {
	one := lit(1)
	return map[string]func(api.Expr) api.Expr{
		"Lam":       func(e api.Expr) api.Expr { return lam("w", e) },
		"App":       func(e api.Expr) api.Expr { return app(e, one) },
		"argument":  func(e api.Expr) api.Expr { return app(one, e) },
		"Let":       func(e api.Expr) api.Expr { return let(e, bind("w", one)) },
		"Bind":      func(e api.Expr) api.Expr { return let(one, bind("w", e)) },
		"scrutinee": func(e api.Expr) api.Expr { return cas(e, "w", other(one)) },
		"Alt":       func(e api.Expr) api.Expr { return cas(one, "w", other(e)) },
		"Con":       func(e api.Expr) api.Expr { return con(api.Box, e) },
		"Prim":      func(e api.Expr) api.Expr { return prim(api.Put, e) },
	}
}

// renamed gives each binder a name of its own, so that none is bound twice.
func renamed(e api.Expr) api.Expr {
	count := 0
	e = clone(e)
	changeBinders(&e, func(name *string) {
		*name = "b" + strconv.Itoa(count)
		count++
	})
	return e
}

// P10.1, 1: MaxDepth, from both sides, of one expression.
func TestMaxDepth(t *testing.T) {
	main := boxed(lit(1))
	for what, around := range chains() {
		most, more := renamed(nested(api.MaxDepth-1, lit(1), around)), renamed(nested(api.MaxDepth, lit(1), around))
		wantLint(t, what, api.OK, api.Program{Cons: own(), Binds: []api.Bind{main, bind("q", most)}})
		wantLint(t, what, api.ErrDeep, api.Program{Cons: own(), Binds: []api.Bind{main, bind("q", more)}})
		wantLint(t, what, api.ErrDeep, api.Program{Cons: own(), Binds: []api.Bind{bind("q", more), main}})
	}
	p := api.Program{Cons: own(), Binds: []api.Bind{main}}
	for i := range 90 {
		p.Binds = append(p.Binds, bind("q"+strconv.Itoa(i), nested(api.MaxDepth-1, lit(1), func(e api.Expr) api.Expr { return con(api.Box, e) })))
	}
	wantLint(t, "many deep ones", api.OK, p)
}

// P10.1, 1: MaxNodes, from both sides, over all Binds together.
func TestMaxNodes(t *testing.T) {
	pair := func(first, second int) api.Program {
		return api.Program{Cons: own(), Binds: []api.Bind{bind(api.Main, app(some(first-1)...)), bind("q", app(some(second-1)...))}}
	}
	for _, first := range []int{3, 1000, api.MaxNodes / 2, api.MaxNodes - 3} {
		wantLint(t, "two Binds", api.OK, pair(first, api.MaxNodes-first))
		wantLint(t, "two Binds", api.ErrBig, pair(first, api.MaxNodes-first+1))
		wantLint(t, "two Binds", api.ErrBig, pair(first+1, api.MaxNodes-first))
		wantLint(t, "two Binds", api.ErrBig, pair(first, api.MaxNodes))
	}
	one := api.Program{Cons: own(), Binds: []api.Bind{bind(api.Main, app(some(api.MaxNodes-1)...))}}
	wantLint(t, "one Bind", api.OK, one)
	one.Binds[0].Expr = app(some(api.MaxNodes)...)
	wantLint(t, "one Bind", api.ErrBig, one)
	many := api.Program{Cons: own(), Binds: []api.Bind{bind(api.Main, lit(1))}}
	for i := range api.MaxNodes - 1 {
		many.Binds = append(many.Binds, bind("q"+strconv.Itoa(i), lit(i)))
	}
	wantLint(t, "many Binds", api.OK, many)
	many.Binds = append(many.Binds, bind("q", lit(1)))
	wantLint(t, "many Binds", api.ErrBig, many)
	// What a field holds that does not belong counts as well.
	foreign := lit(1)
	foreign.Subs = some(api.MaxNodes - 1)
	one.Binds[0].Expr = foreign
	wantLint(t, "a Lit with many Subs", api.ErrShape, one)
	foreign.Subs = some(api.MaxNodes)
	one.Binds[0].Expr = foreign
	wantLint(t, "a Lit with more Subs", api.ErrBig, one)
	wide := cas(lit(1), "y")
	for i := range api.MaxNodes - 4 {
		wide.Alts = append(wide.Alts, litAlt(i, lit(1)))
	}
	one.Binds[0] = boxed(wide)
	wantLint(t, "many alternatives", api.OK, one)
	wide.Alts = append(wide.Alts, other(lit(1)))
	one.Binds[0] = boxed(wide)
	wantLint(t, "more alternatives", api.ErrBig, one)
}

// R4: expressions may have 2^16 levels.
func TestDeep(t *testing.T) {
	const levels = 1<<16 - 10
	for what, around := range chains() {
		hold20(t, what, func() {
			deep, replaced, longer := nested(levels, v("x"), around), nested(levels, v("y"), around), nested(levels+1, v("x"), around)
			if core.Depth(deep) != levels+1 || core.Depth(longer) != levels+2 {
				t.Error(what, core.Depth(deep), core.Depth(longer))
			}
			if size := core.Size(around(lit(1))); core.Size(deep) != levels*(size-1)+1 {
				t.Error(what, core.Size(deep))
			}
			wantWords(t, what, core.Free(deep), "x")
			wantWords(t, what, core.Free(lam("x", deep)), "")
			if !core.Same(deep, clone(deep)) || core.Same(deep, replaced) || core.Same(deep, longer) {
				t.Error(what, "Same")
			}
			if !core.Same(core.Replace(deep, "x", v("y")), replaced) || !core.Same(core.Replace(v("z"), "z", deep), deep) || !core.Same(core.Replace(replaced, "x", v("z")), replaced) {
				t.Error(what, "Replace")
			}
			if got := core.Depth(core.Replace(deep, "x", deep)); got != 2*levels+1 {
				t.Error(what, got)
			}
			if got, want := len(core.Binders(deep)), levels*len(core.Binders(around(lit(1)))); got != want {
				t.Error(what, got, want)
			}
			p := program(bind("q", app(deep, lam("t#4", lit(1)))), bind("r", deep))
			if got := core.Next(p); got != 5 {
				t.Error(what, got)
			}
			wantGroups(t, "1, 0", bind("q", api.Expr{Kind: api.Lam, Names: []string{"q"}, Subs: []api.Expr{deep}}), bind("x", lit(1)))
			want := api.ErrDeep
			if core.Size(p.Binds[1].Expr)+core.Size(deep)+3 > api.MaxNodes {
				want = api.ErrBig
			}
			wantLint(t, what, want, p)
		})
	}
}

// askAll calls all that takes expressions.
func askAll(e, f api.Expr) {
	core.Size(e)
	core.Depth(e)
	core.Free(e)
	core.Binders(e)
	core.Same(e, f)
	core.Same(f, e)
	core.Replace(e, "x", f)
	core.Replace(f, "x", e)
	core.Replace(v("x"), "x", e)
	core.Next(program(bind("q", e), bind("r", f)))
	core.Groups(bind("q", e), bind("r", f), bind("x", e))
	core.Lint(program(bind("q", e), bind("r", f)))
}

// R1: calls for deeper expressions end too.
func TestTooDeep(t *testing.T) {
	for what, around := range chains() {
		hold20(t, what, func() {
			deep, deeper := nested(1<<17-2, v("x"), around), nested(140000, v("x"), around)
			askAll(deep, v("y"))
			askAll(deeper, app(deeper, deep))
			wantLint(t, what, api.ErrBig, program(bind("q", deeper)))
		})
	}
	// Calls within calls would not do for this one.
	hold20(t, "a deeper one", func() {
		deepest := nested(4000000, v("x"), func(e api.Expr) api.Expr { return con("C", e) })
		askAll(deepest, v("x"))
		core.Same(deepest, app(deepest, deepest))
		core.Same(deepest, nested(4000000, v("x"), func(e api.Expr) api.Expr { return con("C", e) }))
	})
}

// endless is values that are parts of themselves.
func endless() map[string]api.Expr {
	loop := func(kind, width int) api.Expr {
		subs := make([]api.Expr, width)
		e := api.Expr{Kind: kind, Subs: subs}
		if kind == api.Lam {
			e.Names = []string{"w"}
		}
		for i := range subs {
			subs[i] = e
		}
		return e
	}
	binds := make([]api.Bind, 3)
	inBinds := api.Expr{Kind: api.Let, Binds: binds, Subs: []api.Expr{v("x")}}
	for i := range binds {
		binds[i] = bind("w"+strconv.Itoa(i), inBinds)
	}
	alts := make([]api.Alt, 3)
	inAlts := api.Expr{Kind: api.Case, Name: "w", Alts: alts, Subs: []api.Expr{v("x")}}
	for i := range alts {
		alts[i] = litAlt(i, inAlts)
	}
	// Many expressions, each of which is a part of itself and of the next one.
	ring := make([]api.Expr, 3000)
	for i := range ring {
		ring[i] = api.Expr{Kind: api.App, Subs: []api.Expr{v("x"), v("y"), v("z")}}
	}
	for i := range ring {
		ring[i].Subs[1], ring[i].Subs[2] = ring[i], ring[(i+1)%len(ring)]
	}
	return map[string]api.Expr{"Lam": loop(api.Lam, 1), "App": loop(api.App, 2), "wide": loop(api.App, 1000), "no Kind": loop(0, 3), "Let": inBinds, "Case": inAlts, "ring": ring[0]}
}

// R1: calls for what is a part of itself end.
func TestEndless(t *testing.T) {
	for what, e := range endless() {
		hold20(t, what, func() {
			askAll(e, con("C", v("x"), e))
			wantLint(t, what, api.ErrBig, program(bind("q", e)))
			wantLint(t, what, api.ErrBig, program(bind("q", con("C", lit(1), e)), bind("r", e)))
			for what, f := range endless() {
				core.Same(e, f)
				wantLint(t, what, api.ErrBig, program(bind("q", app(f, e))))
			}
		})
	}
	hold20(t, "many Binds", func() {
		for _, e := range endless() {
			var binds []api.Bind
			for i := range 20000 {
				binds = append(binds, bind("q"+strconv.Itoa(i), e))
			}
			core.Groups(binds...)
			core.Next(api.Program{Binds: binds})
			wantLint(t, "many Binds", api.ErrBig, api.Program{Binds: binds})
		}
	})
}

// P10.2, R1: an expression that takes little memory may have more parts than can
// be gone through.
func TestShared(t *testing.T) {
	doubled := func(e api.Expr) api.Expr { return app(e, e) }
	for _, times := range []int{10, 20, 30, 60} {
		hold20(t, "doubled expressions", func() {
			e, f := nested(times, v("x"), doubled), nested(times, v("y"), doubled)
			if size, depth := core.Size(e), core.Depth(e); size != 1<<(times+1)-1 || depth != times+1 {
				t.Error(times, size, depth)
			}
			wantWords(t, "Free", core.Free(e), "x")
			wantWords(t, "Free", core.Free(lam("x", e)), "")
			wantWords(t, "Free", core.Free(app(lam("x", e), f)), "y")
			wantWords(t, "Binders", core.Binders(e), "")
			wantWords(t, "Binders", core.Binders(lam("a", let(e, bind("b", cas(f, "c", conAlt("C", "d e", e), other(lam("f", e))))))), "a b c d e f")
			wantWords(t, "Binders", core.Binders(con("C", app(e, prim(api.Put, lam("a", e))), app(e, e))), "a")
			if !core.Same(e, e) || !core.Same(e, nested(times, v("x"), doubled)) || core.Same(e, f) || core.Same(e, nested(times, v("x"), func(e api.Expr) api.Expr { return app(e, e, e) })) {
				t.Error(times, "Same")
			}
			if got := core.Next(api.Program{Binds: []api.Bind{bind("q", nested(times, lam("t#6", v("x")), doubled)), bind("r", lam("t#5", e))}}); got != 7 {
				t.Error(times, got)
			}
			wantGroups(t, "1, 0", bind("a", e), bind("x", f))
			wantGroups(t, "0 1", bind("y", e), bind("x", f))
			want := api.ErrBig
			if times == 10 {
				want = api.OK
			}
			wantLint(t, "doubled", want, program(bind("q", e), bind("r", f), bind("x", lit(1)), bind("y", lit(1))))
			// What these answer may be greater than answers can be.
			replaced := core.Replace(e, "x", v("y"))
			core.Replace(e, "x", f)
			core.Replace(f, "x", e)
			core.Binders(nested(times, lam("w", v("x")), doubled))
			if times <= 20 && !core.Same(replaced, f) {
				t.Error(times, "Replace")
			}
			if got := core.Replace(v("z"), "x", e); !equal(got, v("z")) {
				t.Error(times, say(got))
			}
		})
	}
	if got := len(core.Binders(nested(20, lam("v w", v("x")), doubled))); got != 2<<20 {
		t.Error(got)
	}
	hold20(t, "long Names", func() {
		names := make([]string, 10000)
		long := nested(14, api.Expr{Kind: api.Lam, Names: names, Subs: []api.Expr{v("x")}}, doubled)
		if got := core.Replace(long, "x", v("y")); !equal(got, api.Expr{}) {
			t.Error(core.Size(got))
		}
		wantWords(t, "Free", core.Free(long), "x")
		if got := len(core.Binders(long)); got != 0 && got != len(names)<<14 {
			t.Error(got)
		}
	})
	hold20(t, "levels", func() {
		e := nested(60000, v("x"), doubled)
		askAll(e, nested(60000, v("x"), doubled))
		if got := core.Depth(e); got != 60001 {
			t.Error(got)
		}
		if got := core.Size(e); got < math.MaxInt32 {
			t.Error(got)
		}
		if !core.Same(e, nested(60000, v("x"), doubled)) || core.Same(e, nested(60000, v("y"), doubled)) {
			t.Error("Same")
		}
	})
}

// P10.2: free names of what is shared, under binders of different names.
func TestSharedFree(t *testing.T) {
	around := []func(e api.Expr, name string) api.Expr{
		func(e api.Expr, name string) api.Expr { return lam("u "+name, e) },
		func(e api.Expr, name string) api.Expr { return let(e, bind(name, e)) },
		func(e api.Expr, name string) api.Expr { return cas(lit(1), name, other(e)) },
		func(e api.Expr, name string) api.Expr { return cas(lit(1), "u", conAlt("C", "w "+name, e)) },
	}
	for k, wrap := range around {
		e := app()
		var all []string
		for i := range 150 {
			name := "x" + strconv.Itoa(i)
			e.Subs = append(e.Subs, v(name))
			all = append(all, name)
		}
		inner := e
		// Each level binds a name on both ways to what is within, or on one of them.
		for i := range 100 {
			one := wrap(e, all[i])
			two := e
			if i%2 == 0 {
				two = wrap(e, all[i])
			}
			e = con("C", one, two)
		}
		var want []string
		for i, name := range all {
			if i >= 100 || i%2 == 1 {
				want = append(want, name)
			}
		}
		slices.Sort(want)
		hold20(t, "binders", func() {
			if got := core.Free(e); !slices.Equal(got, want) {
				t.Errorf("%d: got %v, want %v", k, got, want)
			}
			slices.Sort(all)
			if got := core.Free(prim(api.Eq, e, cas(inner, "x0", other(lit(1))))); !slices.Equal(got, all) {
				t.Errorf("%d: got %v, want %v", k, got, all)
			}
			if got := core.Free(cas(e, "x1", other(e))); !slices.Equal(got, want) {
				t.Errorf("%d: got %v, want %v", k, got, want)
			}
			bound := lam("x1 x3", let(e, bind("x5", e)))
			if got := core.Free(bound); !slices.Equal(got, slices.DeleteFunc(want, func(name string) bool { return name == "x1" || name == "x3" || name == "x5" })) {
				t.Errorf("%d: got %v", k, got)
			}
		})
	}
}

// R1: great expressions that share nothing.
func TestGreat(t *testing.T) {
	const width = 300000
	e := con("C")
	names := make([]string, width)
	for i := range width {
		names[i] = "x" + strconv.Itoa(i)
		e.Subs = append(e.Subs, app(v(names[i]), lam("w", v("w"))))
	}
	slices.Sort(names)
	hold20(t, "a wide one", func() {
		if core.Size(e) != 1+4*width || core.Depth(e) != 4 || len(core.Binders(e)) != width {
			t.Error(core.Size(e), core.Depth(e), len(core.Binders(e)))
		}
		if !slices.Equal(core.Free(e), names) || len(core.Free(lam("x7 x8", e))) != width-2 {
			t.Error("Free")
		}
		other := core.Replace(e, "x299999", lit(7))
		if core.Same(e, other) || !core.Same(core.Replace(other, "x299999", lit(8)), other) || !core.Same(e, clone(e)) || len(core.Free(other)) != width-1 {
			t.Error("Replace")
		}
		wantLint(t, "a wide one", api.ErrBig, program(bind("q", e)))
	})
	hold20(t, "a long Lam", func() {
		l := api.Expr{Kind: api.Lam, Names: names, Subs: []api.Expr{e}}
		p := program(bind("q", l))
		p.Binds[1].Expr.Subs = []api.Expr{app(v(names[0]), v(names[width-1]))}
		wantLint(t, "a long Lam", api.OK, p)
		if len(core.Free(l)) != 0 || len(core.Binders(p.Binds[1].Expr)) != width {
			t.Error("a long Lam")
		}
	})
}

// P10.5: many binds, in chains that are too long for calls within calls.
func TestManyBinds(t *testing.T) {
	const count = 1000000
	name := func(i int) string { return "q" + strconv.Itoa(i) }
	binds := make([]api.Bind, count)
	hold20(t, "chains", func() {
		for i := range binds {
			binds[i] = bind(name(i), v(name(i+1)))
		}
		groups := core.Groups(binds...)
		if len(groups) != count || groups[0][0] != count-1 || groups[count-1][0] != 0 {
			t.Error("to those behind", len(groups))
		}
		binds[count-1].Expr = v(name(0))
		groups = core.Groups(binds...)
		if len(groups) != 1 || len(groups[0]) != count || !slices.IsSorted(groups[0]) {
			t.Error("around", len(groups))
		}
		for i := range binds {
			binds[i].Expr = v(name(i - 1))
		}
		groups = core.Groups(binds...)
		if len(groups) != count || groups[0][0] != 0 || groups[count-1][0] != count-1 {
			t.Error("to those ahead", len(groups))
		}
	})
	hold20(t, "one that uses all", func() {
		binds := binds[:100000]
		all := con("C")
		for i := range binds {
			all.Subs = append(all.Subs, v(name(i)))
			binds[i].Expr = lit(1)
		}
		binds[0].Expr = all
		groups := core.Groups(binds...)
		if len(groups) != len(binds) || groups[0][0] != 1 || groups[len(binds)-1][0] != 0 {
			t.Error("the first one", len(groups))
		}
		for i := range binds {
			binds[i].Expr = v(name(0))
		}
		binds[0].Expr = all
		if groups := core.Groups(binds...); len(groups) != 1 || len(groups[0]) != len(binds) {
			t.Error("and is used by all", len(groups))
		}
	})
}
