package core_test

import (
	"testing"

	"teasel/api"
)

// binding is expressions that bind a name, by each sort of binder.
func binding(name string) map[string]api.Expr {
	names := func(alt api.Alt) api.Alt {
		alt.Names[1] = name
		return alt
	}
	l := lam("u1 u2 u3", lit(1))
	l.Names[2] = name
	return map[string]api.Expr{
		"Lam":          {Kind: api.Lam, Names: []string{name}, Subs: []api.Expr{lit(1)}},
		"Lam, last":    l,
		"Case":         cas(lit(1), name, other(lit(1))),
		"ConAlt":       cas(lit(1), "u4", conAlt("R", "", lit(1)), names(conAlt("B", "u5 u6", lit(1)))),
		"Let":          let(lit(1), bind(name, lit(1))),
		"Let, last":    let(lit(1), bind("u7", lit(1)), bind(name, lit(1))),
		"Lam in App":   app(lit(1), lam("u8", lit(1)), api.Expr{Kind: api.Lam, Names: []string{name}, Subs: []api.Expr{lit(1)}}),
		"Case in Case": cas(lit(1), "u9", other(cas(lit(1), name, other(lit(1))))),
	}
}

// P10.1, 4: binders of each sort that are empty.
func TestEmptyBinders(t *testing.T) {
	for what, e := range binding("") {
		wantLint(t, what, api.ErrName, answering(e))
		wantLint(t, what+", in another Bind", api.ErrName, program(bind("q", lit(1)), bind("r", e)))
	}
	for what, e := range binding("x") {
		wantLint(t, what, api.OK, answering(e))
	}
	wantLint(t, "a Bind", api.ErrName, program(bind("", lit(1))))
	wantLint(t, "a Bind ahead", api.ErrName, api.Program{Cons: own(), Binds: []api.Bind{bind("", lit(1)), boxed(lit(1))}})
}

// rename gives each binder of binding's but one another name, so that two of
// its expressions may stand in one program.
func rename(e api.Expr, keep string) api.Expr {
	e = clone(e)
	changeBinders(&e, func(name *string) {
		if *name != keep {
			*name += "'"
		}
	})
	return e
}

// P10.1, 4: a name that binders of two sorts bind, in one Bind or in two, one
// in the other or beside it.
func TestTwiceBound(t *testing.T) {
	for one, e := range binding("x") {
		for two, f := range binding("x") {
			f = rename(f, "x")
			what := one + ", " + two
			wantLint(t, what+" beside", api.ErrName, answering(app(e, f)))
			wantLint(t, what+" in two Binds", api.ErrName, program(bind("q", e), bind("r", lit(1)), bind("z", f)))
			wantLint(t, what+" in two alternatives", api.ErrName, answering(cas(lit(1), "y", litAlt(1, e), other(f))))
			wantLint(t, what+" apart", api.OK, answering(app(e, rename(f, "u"))))
		}
		wantLint(t, one+" and a Bind", api.ErrName, program(bind("x", e)))
		wantLint(t, one+" and a Bind behind", api.ErrName, program(bind("q", e), bind("x", lit(1))))
		wantLint(t, one+" and main", api.ErrName, program(bind("q", binding(api.Main)[one])))
	}
	wantLint(t, "two Binds", api.ErrName, program(bind("q", lit(1)), bind("r", lit(1)), bind("q", lit(1))))
	wantLint(t, "main twice", api.ErrName, program(boxed(lit(7))))
	wantLint(t, "Names", api.ErrName, answering(lam("x y x", lit(1))))
	wantLint(t, "a Let", api.ErrName, answering(let(lit(1), bind("x", lit(1)), bind("y", lit(1)), bind("x", lit(1)))))
	wantLint(t, "a Let and within", api.ErrName, answering(let(lit(1), bind("x", lam("x", v("x"))))))
	wantLint(t, "Names of an alternative", api.ErrName, answering(cas(lit(1), "y", conAlt("B", "x x", lit(1)))))
	wantLint(t, "a Case and its alternative", api.ErrName, answering(cas(lit(1), "x", conAlt("B", "x y", lit(1)))))
	wantLint(t, "a Case and its scrutinee", api.ErrName, answering(cas(lam("x", v("x")), "x", other(lit(1)))))
	wantLint(t, "a Lam in a Lam", api.ErrName, answering(lam("x", lam("x", v("x")))))
	// Memory that is shared stands in two places.
	shared := lam("x", v("x"))
	wantLint(t, "the same twice", api.ErrName, answering(app(shared, shared)))
}

// P10.1, 5: where names are bound.
func TestScopes(t *testing.T) {
	x := v("x")
	for what, e := range map[string]api.Expr{
		"a Lam's body":                lam("y x z", x),
		"deep in a body":              lam("x", app(lam("y", con(api.Box, prim(api.Put, x))), v("s"))),
		"a Let's body":                let(x, bind("x", lit(1))),
		"a Let's bind itself":         let(lit(1), bind("x", x)),
		"a Let's bind ahead":          let(lit(1), bind("y", x), bind("x", lit(1))),
		"a Let's bind behind":         let(lit(1), bind("x", lit(1)), bind("y", x)),
		"a Case's alternatives":       cas(lit(1), "x", litAlt(1, x), other(x)),
		"an alternative":              cas(lit(1), "y", conAlt("B", "z x", x)),
		"a Case in an alternative":    cas(lit(1), "y", conAlt("B", "z x", cas(x, "w", other(x)))),
		"the whole program":           app(v(api.Main), v("q")),
		"what is around, in a Let":    lam("x", let(x, bind("y", x))),
		"what is around, in the Case": lam("x", cas(x, "y", other(x))),
	} {
		p := answering(e)
		p.Binds = append(p.Binds, bind("q", v("q")))
		wantLint(t, what, api.OK, p)
	}
	for what, e := range map[string]api.Expr{
		"nothing":                     x,
		"beside a Lam":                app(lam("x", x), x),
		"ahead of a Lam":              app(x, lam("x", x)),
		"beside a Let":                app(let(x, bind("x", lit(1))), x),
		"around a Let":                app(x, let(x, bind("x", lit(1)))),
		"a Let in a Let's bind":       let(x, bind("y", let(x, bind("x", lit(1))))),
		"a Case's scrutinee":          cas(x, "x", other(lit(1))),
		"beside a Case":               con("Pair", cas(lit(1), "x", other(x)), x),
		"another alternative":         cas(lit(1), "y", conAlt("G", "x", x), conAlt("R", "", x)),
		"an alternative ahead":        cas(lit(1), "y", conAlt("R", "", x), conAlt("G", "x", x)),
		"the Default":                 cas(lit(1), "y", conAlt("G", "x", x), other(x)),
		"a scrutinee, in alternative": cas(x, "y", conAlt("G", "x", x)),
		"a Lam's name without a Lam":  con("Pair", lam("y", lam("x", x)), prim(api.Put, x)),
		"an empty name":               v(""),
		"a constructor's name":        v("Nil"),
		"a name in another Bind":      v("in.q"),
		"a name of another case":      v("X"),
	} {
		p := answering(e)
		p.Binds = append(p.Binds, bind("q", lam("in.q", v("in.q"))))
		wantLint(t, what, api.ErrScope, p)
	}
	for _, e := range within(x) {
		wantLint(t, say(e), api.ErrScope, answering(e))
		wantLint(t, say(e)+" in a Lam", api.OK, answering(lam("x", e)))
	}
	p := program(bind("q", x))
	wantLint(t, "in the last Bind", api.ErrScope, p)
	wantLint(t, "in the first Bind", api.ErrScope, api.Program{Cons: own(), Binds: []api.Bind{bind("q", x), boxed(lit(1))}})
	wantLint(t, "bound by a Bind", api.OK, program(bind("q", x), bind("x", x)))
}
