package occur_test

import (
	"math"
	"slices"
	"strconv"
	"strings"
	"testing"
	"time"

	"teasel/api"
	"teasel/occur"
)

// hold20 holds that something ends within some time.
func hold20(t *testing.T, what string, do func()) {
	t.Helper()
	start := time.Now()
	do()
	if took := time.Since(start); took > 20*time.Second {
		t.Errorf("%s took %v", what, took)
	}
}

// nested is an expression in which the same stands so many times, one in another.
func nested(times int, inner api.Expr, around func(api.Expr) api.Expr) api.Expr {
	for range times {
		inner = around(inner)
	}
	return inner
}

// chains is ways to put an expression into another one that has one more level.
func chains() map[string]func(api.Expr) api.Expr {
	one := lit(1)
	return map[string]func(api.Expr) api.Expr{
		"Lam":       func(e api.Expr) api.Expr { return lam("w", e) },
		"App":       func(e api.Expr) api.Expr { return app(e, one) },
		"argument":  func(e api.Expr) api.Expr { return app(one, e) },
		"Let":       func(e api.Expr) api.Expr { return let(e, bind("w", one)) },
		"Bind":      func(e api.Expr) api.Expr { return let(one, bind("w", e)) },
		"scrutinee": func(e api.Expr) api.Expr { return cas(e, "w", other(one)) },
		"Alt":       func(e api.Expr) api.Expr { return cas(one, "w", other(e)) },
		"Con":       func(e api.Expr) api.Expr { return con(api.Box, e) },
		"Prim":      func(e api.Expr) api.Expr { return prim(api.Put, e) },
	}
}

// uses is what Uses answers, without messages that would be too long.
func uses(t *testing.T, what string, e api.Expr, name string, times int, inside bool) {
	t.Helper()
	gotTimes, gotInside := occur.Uses(e, name)
	if gotTimes != times || gotInside != inside || occur.Once(e, name) != (times == 1 && !inside) {
		t.Errorf("%s: got %d, %v, want %d, %v", what, gotTimes, gotInside, times, inside)
	}
}

// R4: expressions may have 2^16 levels.
func TestDeep(t *testing.T) {
	const levels = 1<<16 - 10
	for what, around := range chains() {
		hold20(t, what, func() {
			deep := nested(levels, v("x"), around)
			inLam := what == "Lam"
			uses(t, what, deep, "x", 1, inLam)
			uses(t, what, deep, "w", 0, false)
			uses(t, what, app(deep, v("x")), "x", 2, inLam)
			uses(t, what, lam("y", deep), "x", 1, true)
			uses(t, what, lam("x", deep), "x", 0, false)
			if live := occur.Live(deep, bind("y", lit(1)), bind("x", deep), bind("z", deep)); !slices.Equal(live, []int{1}) {
				t.Error(what, live)
			}
			p := program(bind("x", lit(1)), boxed(deep), bind("y", deep))
			if got := strings.Join(occur.Reached(p), " "); got != api.Main+" x" {
				t.Error(what, got)
			}
		})
	}
}

// Great expressions: all that a program may have, and more.
func TestGreat(t *testing.T) {
	const count = 1 << 20
	xs := slices.Repeat([]api.Expr{v("x")}, count)
	hold20(t, "great", func() {
		uses(t, "an App", app(xs...), "x", count, false)
		uses(t, "a Lam", lam("y", app(xs...)), "x", count, true)
		uses(t, "a Con", con("C", append(xs, lam("y", v("x")))...), "x", count+1, true)
		uses(t, "a Con", con("C", append(xs, lam("x", v("x")))...), "x", count, false)
		alts := make([]api.Alt, count)
		binds := make([]api.Bind, count)
		for i := range alts {
			alts[i] = conAlt("C"+strconv.Itoa(i), "a"+strconv.Itoa(i), v("a1"))
			binds[i] = bind("a"+strconv.Itoa(i), v("a"+strconv.Itoa(i/2)))
		}
		uses(t, "a Case", cas(v("x"), "y", alts...), "a1", count-1, false)
		uses(t, "a Let", let(v("a1"), binds...), "a1", 0, false)
		uses(t, "a Let", let(v("x"), binds...), "x", 1, false)
		if live := occur.Live(v("a"+strconv.Itoa(count-1)), binds...); len(live) != 21 {
			t.Error(len(live))
		}
		if reached := occur.Reached(program(append(binds, boxed(v("a1000")))...)); len(reached) != 12 {
			t.Error(len(reached))
		}
	})
}

// doubled is an expression in which another one stands 2^times times, in little
// memory.
func doubled(times int, inner api.Expr) api.Expr {
	return nested(times, inner, func(e api.Expr) api.Expr { return app(e, e) })
}

// Expressions that share memory, and are far greater than what they take.
func TestShared(t *testing.T) {
	hold20(t, "shared", func() {
		x := v("x")
		for times := range 62 {
			uses(t, "an App", doubled(times, x), "x", 1<<times, false)
		}
		for _, times := range []int{63, 64, 70, 1000} {
			uses(t, "an App", doubled(times, x), "x", math.MaxInt, false)
		}
		uses(t, "a Lam in it", doubled(40, app(x, lam("y", x))), "x", 1<<41, true)
		uses(t, "a Lam in it", doubled(40, app(x, lam("x", x))), "x", 1<<40, false)
		uses(t, "a Lam beside", app(doubled(1000, lit(1)), lam("y", x)), "x", 1, true)
		uses(t, "one", app(doubled(1000, lit(1)), x), "x", 1, false)
		uses(t, "none", doubled(1000, lam("x", x)), "x", 0, false)
		sides := doubled(1000, x)
		uses(t, "bound in one place", app(lam("x", sides), let(sides, bind("x", sides)), cas(sides, "x", other(sides)), x), "x", math.MaxInt, false)
		uses(t, "bound in all places", app(lam("x", sides), let(sides, bind("x", sides)), x), "x", 1, false)
		names := slices.Repeat([]string{"a"}, 1<<20)
		wide := nested(100, x, func(e api.Expr) api.Expr {
			return app(api.Expr{Kind: api.Lam, Names: names, Subs: []api.Expr{e}}, e)
		})
		uses(t, "many names", wide, "x", math.MaxInt, true)
		deep := nested(1<<15, x, func(e api.Expr) api.Expr { return app(e, lam("y", e)) })
		uses(t, "a deep one", deep, "x", math.MaxInt, true)
		if live := occur.Live(deep, bind("y", lit(1)), bind("x", sides), bind("z", deep)); !slices.Equal(live, []int{1}) {
			t.Error(live)
		}
		if got := strings.Join(occur.Reached(program(bind("x", sides), boxed(deep), bind("z", deep))), " "); got != api.Main+" x" {
			t.Error(got)
		}
	})
}

// asked is all calls with a value, which end.
func asked(t *testing.T, what string, e api.Expr) {
	t.Helper()
	hold20(t, what, func() {
		occur.Uses(e, "x")
		occur.Once(e, "x")
		occur.Live(e, bind("x", e), bind("y", e), bind("x", lit(1)))
		occur.Reached(program(bind("x", e), bind("y", e), bind(api.Main, e)))
	})
}

// Values that are parts of themselves.
func TestEndless(t *testing.T) {
	for what, around := range chains() {
		e := around(v("x"))
		for i := range e.Subs {
			e.Subs[i] = e
		}
		for i := range e.Binds {
			e.Binds[i].Expr = e
		}
		for i := range e.Alts {
			e.Alts[i].Body = e
		}
		asked(t, what, e)
		asked(t, what, app(v("x"), e, v("x")))
	}
	wide := app(slices.Repeat([]api.Expr{v("x")}, 1<<12)...)
	for i := range wide.Subs {
		wide.Subs[i] = wide
	}
	asked(t, "a wide one", wide)
	a, b := app(v("x"), v("x"), v("x")), con("C", v("x"), v("x"))
	a.Subs[1], a.Subs[2], b.Subs[0], b.Subs[1] = b, a, a, b
	asked(t, "two", a)
}

// Beyond the document's bounds calls end too.
func TestDeeper(t *testing.T) {
	for what, around := range chains() {
		asked(t, what, nested(1<<18, v("x"), around))
	}
	asked(t, "two in each", nested(1<<18, v("x"), func(e api.Expr) api.Expr { return app(e, e) }))
}

// Values that are no right programs.
func TestWrong(t *testing.T) {
	x := v("x")
	for kind := -1; kind < 12; kind++ {
		for _, subs := range [][]api.Expr{nil, {x}, {x, lit(1)}, {x, x, x}} {
			e := api.Expr{Kind: kind, Subs: subs}
			asked(t, "of a kind", e)
			e.Name, e.N, e.Op, e.Names = "x", -1, 99, []string{"", "x", "x"}
			asked(t, "with a name", e)
			e.Binds = []api.Bind{{}, bind("x", e), bind("", e)}
			asked(t, "with binds", e)
			e.Alts = []api.Alt{{}, {Kind: 7, Name: "x", N: 3, Names: []string{"x"}, Body: e}, other(e)}
			asked(t, "with alternatives", e)
		}
	}
	wantUses(t, api.Expr{}, "", 0, false)
	wantUses(t, v(""), "", 1, false)
	if len(occur.Live(api.Expr{})) != 0 || len(occur.Reached(api.Program{})) != 0 || len(occur.Reached(api.Program{Binds: make([]api.Bind, 3)})) != 0 {
		t.Error("something is needed")
	}
}
