package stg_test

import (
	"testing"

	"teasel/api"
	"teasel/occur"
	"teasel/stg"
)

// way is a way from an expression to one in it.
type way struct {
	around   func(e api.Expr) api.Expr
	straight bool
}

// ways is each way there is; the names that are bound on them are k and j.
func ways() map[string]way {
	one, y := lit(1), v("y")
	return map[string]way{
		"function":        {func(e api.Expr) api.Expr { return app(e, y) }, true},
		"of several":      {func(e api.Expr) api.Expr { return app(e, y, one, y) }, true},
		"argument":        {func(e api.Expr) api.Expr { return app(y, e) }, false},
		"last argument":   {func(e api.Expr) api.Expr { return app(y, one, one, e) }, false},
		"only argument":   {func(e api.Expr) api.Expr { return prim(api.Put, e) }, true},
		"first":           {func(e api.Expr) api.Expr { return add(e, y) }, true},
		"second":          {func(e api.Expr) api.Expr { return add(y, e) }, true},
		"second of Quot":  {func(e api.Expr) api.Expr { return prim(api.Quot, app(y, y), e) }, true},
		"scrutinee":       {func(e api.Expr) api.Expr { return cas(e, "k", litAlt(1, y), other(y)) }, true},
		"ConAlt":          {func(e api.Expr) api.Expr { return cas(y, "k", conAlt("Cons", "h j", e), conAlt("Nil", "", y)) }, true},
		"LitAlt":          {func(e api.Expr) api.Expr { return cas(y, "k", litAlt(1, y), litAlt(2, e), other(y)) }, true},
		"Default":         {func(e api.Expr) api.Expr { return cas(y, "k", litAlt(1, y), other(e)) }, true},
		"body":            {func(e api.Expr) api.Expr { return let1("k", y, e) }, true},
		"body of several": {func(e api.Expr) api.Expr { return let(e, bind("k", y), bind("j", v("k"))) }, true},
		"Bind":            {func(e api.Expr) api.Expr { return let1("k", e, y) }, false},
		"last Bind":       {func(e api.Expr) api.Expr { return let(v("k"), bind("k", y), bind("j", e)) }, false},
		"Lam":             {func(e api.Expr) api.Expr { return lam("k j", e) }, false},
		"field":           {func(e api.Expr) api.Expr { return box(e) }, false},
		"last field":      {func(e api.Expr) api.Expr { return pair(y, e) }, false},
	}
}

func wantStraight(t *testing.T, what string, e api.Expr, name string, want bool) {
	t.Helper()
	if stg.Straight(e, name) != want {
		t.Errorf("%s, %s in %s: not %v", what, name, say(e), want)
	}
}

// P16.3: each way alone, and any three of them.
func TestWays(t *testing.T) {
	wantStraight(t, "itself", v("x"), "x", true)
	wantStraight(t, "another one", v("y"), "x", false)
	wantStraight(t, "a Lit", lit(1), "x", false)
	wantStraight(t, "no name", v(""), "x", false)
	for _, e := range []api.Expr{get(), raise(), con("Nil"), con("x"), lam("x", lit(1)), cas(lit(1), "x", other(lit(1))), let1("x", lit(1), lit(1)), cas(lit(1), "y", conAlt("x", "", lit(1)))} {
		wantStraight(t, "no Var", e, "x", false)
	}
	for one, a := range ways() {
		wantStraight(t, one, a.around(v("x")), "x", a.straight)
		wantStraight(t, one, a.around(lit(1)), "x", false)
		wantStraight(t, one, a.around(v("y")), "x", false)
		for two, b := range ways() {
			for three, c := range ways() {
				what := one + ", " + two + ", " + three
				wantStraight(t, what, a.around(b.around(c.around(v("x")))), "x", a.straight && b.straight && c.straight)
			}
			// twice, in whichever places
			for _, e := range []api.Expr{add(a.around(v("x")), b.around(v("x"))), app(a.around(v("x")), b.around(v("x"))), cas(lit(1), "q", litAlt(1, a.around(v("x"))), other(b.around(v("x"))))} {
				wantStraight(t, one+" and "+two, e, "x", false)
			}
		}
	}
}

// P16.3: names that are bound again on the way.
func TestStraightBound(t *testing.T) {
	x, y, one := v("x"), v("y"), lit(1)
	for _, e := range []api.Expr{
		lam("x", x), lam("a x b", x), let1("x", one, x), let1("x", x, one), let(x, bind("y", one), bind("x", one)), let(one, bind("y", x), bind("x", one)),
		cas(y, "x", other(x)), cas(y, "x", litAlt(1, x), other(x)), cas(y, "k", conAlt("Pair", "a x", x)), cas(y, "x", conAlt("Pair", "a x", x)),
		add(cas(y, "x", other(x)), let1("x", one, x)),
	} {
		wantStraight(t, "bound", e, "x", false)
		for what, w := range ways() {
			wantStraight(t, what, w.around(e), "x", false)
		}
		// a free one beside
		wantStraight(t, "beside", add(x, e), "x", true)
		wantStraight(t, "beside", add(e, x), "x", true)
		wantStraight(t, "beside", app(x, e), "x", true)
		wantStraight(t, "beside", app(e, x), "x", false)
		wantStraight(t, "beside", pair(e, x), "x", false)
		wantStraight(t, "beside", add(e, add(x, x)), "x", false)
		wantStraight(t, "beside", cas(one, "q", litAlt(1, e), other(x)), "x", true)
	}
	// in what is ahead of what binds it, and in other alternatives
	wantStraight(t, "scrutinee", cas(x, "x", other(x)), "x", true)
	wantStraight(t, "scrutinee", cas(add(x, one), "x", litAlt(1, x), other(add(x, x))), "x", true)
	wantStraight(t, "scrutinee", cas(x, "x", conAlt("Pair", "x y", x)), "x", true)
	wantStraight(t, "scrutinee", cas(x, "k", other(x)), "x", false)
	wantStraight(t, "an alternative", cas(y, "k", conAlt("Cons", "x y", x), conAlt("Nil", "", x)), "x", true)
	wantStraight(t, "an alternative", cas(y, "k", conAlt("Cons", "x y", x), conAlt("Nil", "", y)), "x", false)
	wantStraight(t, "an alternative", cas(y, "k", conAlt("Cons", "x y", x), conAlt("Nil", "", x), other(x)), "x", false)
	// names that only look alike
	wantStraight(t, "others", let1("X", one, app(v("x"), v("x'"), v(" x"), v("x "), v(""))), "x", true)
	wantStraight(t, "others", cas(lit(1), "x2", conAlt("x", "x1", add(x, v("x1")))), "x", true)
	wantStraight(t, "no name", app(v(""), x), "", true)
	wantStraight(t, "no name", app(x, v("")), "", false)
}

// P16.3: any expressions, against a second way.
func TestRandomStraight(t *testing.T) {
	m := newMaker(2)
	straight, crooked := 0, 0
	for i := range 60000 {
		e := m.any(2 + i%6)
		for _, name := range []string{"a", "b", "c", "q"} {
			want := refStraight(e, name)
			wantStraight(t, "random", e, name, want)
			if want {
				straight++
			} else if occur.Once(e, name) {
				crooked++
			}
		}
	}
	if t.Log(straight, crooked); straight < 10000 || crooked < 10000 {
		t.Error(straight, crooked)
	}
}
