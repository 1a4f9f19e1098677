package core_test

import (
	"math"
	"slices"
	"strconv"
	"testing"

	"teasel/api"
)

// The chapter's examples.
func TestLintExamples(t *testing.T) {
	of := func(e api.Expr) api.Program {
		return api.Program{Cons: own(), Binds: []api.Bind{bind(api.Main, e)}}
	}
	wantLint(t, "7", api.OK, of(lam("s", con(api.Box, lit(7)))))
	wantLint(t, "x in place of 7", api.ErrScope, of(lam("s", con(api.Box, v("x")))))
	wantLint(t, "without a Bind", api.ErrNoMain, api.Program{Cons: own()})
	wantLint(t, "s twice", api.ErrName, of(lam("s s", con(api.Box, lit(7)))))
}

// all is a program with each Kind, each Op and each sort of alternative.
func all() api.Program {
	sum := prim(api.Add, v("a"), prim(api.Minus, v("b"), prim(api.Mul, prim(api.Quot, lit(-4), lit(0)), prim(api.Rem, lit(math.MinInt), v("a")))))
	tests := cas(prim(api.Eq, v("d"), v("e")), "c1", conAlt(api.True, "", v("c1")), other(prim(api.Lt, v("d"), prim(api.Le, v("e"), v("c1")))))
	io := let(app(v("f"), v("x"), v("y")), bind("x", prim(api.Get)), bind("y", prim(api.Put, v("x"))))
	list := cas(con("Cons", lit(1), con("Nil")), "c2", conAlt("Nil", "", lit(0)), conAlt("Cons", "h t", app(v("h"), v("t"), v("c2"))))
	rec := let(v("l1"), bind("l1", app(v("l2"), v("l1"))), bind("l2", lam("p", v("l1"))))
	numbers := cas(v("c3"), "c4", litAlt(-1, prim(api.Raise)), litAlt(math.MaxInt, rec), litAlt(math.MinInt, v("c4")), other(v(api.Main)))
	return program(bind("f", lam("a b", sum)), bind("g", let(tests, bind("d", lit(1)), bind("e", io))), bind("i", list),
		bind("c3", numbers), bind("k", cas(v("k"), "c5", other(con("B", v("c5"), con("G", con("R")))))))
}

// P10.1: OK if none applies.
func TestLintOK(t *testing.T) {
	wantLint(t, "each Kind", api.OK, all())
	wantLint(t, "other names of main's", api.OK, answering(lam("x", lam("y", lam("z", app(v("x"), v("y"), v("z"), v("s")))))))
	wantLint(t, "binds use those behind", api.OK, program(bind("a", v("b")), bind("b", v("a"))))
	wantLint(t, "main that is no function", api.OK, api.Program{Cons: own(), Binds: []api.Bind{bind("x", v(api.Main)), bind(api.Main, lit(1))}})
	wantLint(t, "names of constructors as binders", api.OK, answering(lam("Prim.True Nil", app(v("Nil"), con("Nil"), v("Prim.True")))))
	wantLint(t, "strange names", api.OK, answering(lam("t#1 \x00 \xff", app(v("t#1"), v("\x00"), v("\xff")))))
	wantLint(t, "the name of no constructor", api.OK, answering(con(api.Unit)))
	wantLint(t, "an alternative of each", api.OK, answering(cas(v("s"), "y", conAlt("R", "", lit(1)), conAlt("B", "u w", v("u")), conAlt("G", "g", v("g")))))
	// Alternatives need not tell of the whole family, and of nothing but a Default.
	wantLint(t, "a Default", api.OK, answering(cas(v("s"), "y", other(v("y")))))
	wantLint(t, "one of three", api.OK, answering(cas(v("s"), "y", conAlt("G", "g", v("g")))))
	// Constructors of other data may be of a Family with as many.
	wantLint(t, "of the same Family", api.OK, answering(cas(v("s"), "y", conAlt("Nil", "", lit(1)), conAlt(api.True, "", lit(2)), conAlt(api.False, "", lit(3)))))
}

// P10.1: a slice that is empty is no field that does not belong.
func TestLintEmpty(t *testing.T) {
	none := func(e api.Expr) api.Expr {
		if e.Names == nil {
			e.Names = []string{}
		}
		if e.Subs == nil {
			e.Subs = []api.Expr{}
		}
		if e.Binds == nil {
			e.Binds = []api.Bind{}
		}
		if e.Alts == nil {
			e.Alts = []api.Alt{}
		}
		return e
	}
	alts := []api.Alt{{Kind: api.LitAlt, N: 1, Names: []string{}, Body: none(lit(1))}, {Kind: api.Default, Names: []string{}, Body: none(prim(api.Raise))}}
	e := none(cas(none(app(none(v("s")), none(con("Nil")))), "y", alts...))
	e = none(let(e, bind("z", none(lam("w", none(prim(api.Get)))))))
	wantLint(t, "empty fields", api.OK, answering(e))
}

// fields is changes that give an expression one field, by the field's name.
func fields() map[string]func(e *api.Expr) {
	return map[string]func(e *api.Expr){
		"Name":  func(e *api.Expr) { e.Name = "n" },
		"N":     func(e *api.Expr) { e.N = -1 },
		"Op":    func(e *api.Expr) { e.Op = api.Add },
		"Names": func(e *api.Expr) { e.Names = []string{"n"} },
		"Subs":  func(e *api.Expr) { e.Subs = []api.Expr{lit(1)} },
		"Binds": func(e *api.Expr) { e.Binds = []api.Bind{bind("n", lit(1))} },
		"Alts":  func(e *api.Expr) { e.Alts = []api.Alt{other(lit(1))} },
	}
}

// P10.1, 2: each field that does not belong to a Kind.
func TestForeignFields(t *testing.T) {
	for _, c := range []struct {
		e       api.Expr
		belongs []string
	}{
		{v("s"), []string{"Name"}},
		{lit(3), []string{"N"}},
		{lam("x", v("x")), []string{"Names", "Subs"}},
		{app(v("s"), v("s")), []string{"Subs"}},
		{let(v("x"), bind("x", v("s"))), []string{"Binds", "Subs"}},
		{cas(v("s"), "x", other(v("x"))), []string{"Subs", "Name", "Alts"}},
		{con(api.Box, v("s")), []string{"Name", "Subs"}},
		{prim(api.Put, v("s")), []string{"Op", "Subs"}},
	} {
		wantLint(t, say(c.e), api.OK, answering(c.e))
		for field, set := range fields() {
			if slices.Contains(c.belongs, field) {
				continue
			}
			e := clone(c.e)
			set(&e)
			wantLint(t, say(c.e)+" with "+field, api.ErrShape, answering(e))
			wantLint(t, say(c.e)+" with "+field+", ahead of main", api.ErrShape, api.Program{Cons: own(), Binds: []api.Bind{bind("q", e), boxed(lit(1))}})
		}
	}
}

// P10.1, 2: fields that do not belong to an alternative.
func TestForeignAltFields(t *testing.T) {
	sets := map[string]func(a *api.Alt){
		"Name":  func(a *api.Alt) { a.Name = "n" },
		"N":     func(a *api.Alt) { a.N = 1 },
		"Names": func(a *api.Alt) { a.Names = []string{"n"} },
	}
	for _, c := range []struct {
		a       api.Alt
		belongs []string
	}{
		{conAlt("G", "g", v("g")), []string{"Name", "Names"}},
		{litAlt(3, v("s")), []string{"N"}},
		{other(v("s")), nil},
	} {
		wantLint(t, "an alternative", api.OK, answering(cas(v("s"), "y", c.a)))
		for field, set := range sets {
			if slices.Contains(c.belongs, field) {
				continue
			}
			a := c.a
			set(&a)
			wantLint(t, sayAlts([]api.Alt{c.a})+" with "+field, api.ErrShape, answering(cas(v("s"), "y", a)))
			wantLint(t, sayAlts([]api.Alt{c.a})+" with "+field+", behind another one", api.ErrShape, answering(cas(v("s"), "y", litAlt(8, v("s")), a)))
		}
	}
	for _, kind := range []int{0, -1, 4, math.MaxInt, math.MinInt} {
		wantLint(t, "alternative of kind "+strconv.Itoa(kind), api.ErrShape, answering(cas(v("s"), "y", api.Alt{Kind: kind, Body: v("s")})))
		wantLint(t, "last alternative of kind "+strconv.Itoa(kind), api.ErrShape, answering(cas(v("s"), "y", litAlt(1, lit(1)), api.Alt{Kind: kind, Body: v("s")})))
	}
	wantLint(t, "an alternative without a Body", api.ErrShape, answering(cas(v("s"), "y", api.Alt{Kind: api.Default})))
}

// P10.1, 2: undefined Kinds and Ops, and not one Sub where there must be one.
func TestShape(t *testing.T) {
	for _, kind := range []int{0, -1, 9, 10, math.MaxInt, math.MinInt} {
		wantLint(t, "kind "+strconv.Itoa(kind), api.ErrShape, answering(api.Expr{Kind: kind}))
		wantLint(t, "kind "+strconv.Itoa(kind)+" with a Sub", api.ErrShape, answering(api.Expr{Kind: kind, Subs: []api.Expr{lit(1)}}))
	}
	for _, op := range []int{0, -1, 12, 13, math.MaxInt, math.MinInt} {
		for count := range 3 {
			wantLint(t, "op "+strconv.Itoa(op), api.ErrShape, answering(prim(op, []api.Expr{lit(1), lit(2)}[:count]...)))
		}
	}
	for _, subs := range [][]api.Expr{nil, {}, {v("s"), v("s")}, {v("s"), v("s"), v("s")}} {
		for _, e := range []api.Expr{lam("x", v("x")), let(v("x"), bind("x", v("s"))), cas(v("s"), "x", other(v("x")))} {
			what := say(e) + " with Subs " + strconv.Itoa(len(subs))
			e.Subs = subs
			wantLint(t, what, api.ErrShape, answering(e))
		}
	}
}

// P10.1, 2: wherever in an expression it is.
func TestShapeWithin(t *testing.T) {
	wrong := api.Expr{Kind: 9}
	for _, e := range within(wrong) {
		wantLint(t, say(e), api.ErrShape, answering(e))
	}
	p := program(bind("q", wrong))
	wantLint(t, "in the last Bind", api.ErrShape, p)
	slices.Reverse(p.Binds)
	wantLint(t, "in the first Bind", api.ErrShape, p)
	wantLint(t, "no fault", api.OK, program(bind("q", lit(1))))
}

// within is expressions in which e is a child, in each place.
func within(e api.Expr) []api.Expr {
	one := lit(1)
	return []api.Expr{
		e, lam("w", e), app(e, one), app(one, e), app(one, one, e), let(e, bind("w", one)), let(one, bind("w", e)), let(one, bind("u", one), bind("w", e)),
		cas(e, "w", other(one)), cas(one, "w", other(e)), cas(one, "w", litAlt(1, e), other(one)), cas(one, "w", conAlt("B", "w1 w2", e)),
		con(api.Box, e), con("B", one, e), prim(api.Put, e), prim(api.Eq, e, one), prim(api.Eq, one, e), app(lam("w", cas(one, "u", other(let(one, bind("z", e))))), one),
	}
}

// P10.1, 3: what a constructor may be, from both sides.
func TestCons(t *testing.T) {
	for _, c := range []struct {
		arity, tag, family int
		want               api.Errno
	}{
		{0, 0, 1, api.OK}, {100, 0, 1, api.OK}, {101, 0, 1, api.ErrCons}, {-1, 0, 1, api.ErrCons}, {math.MinInt, 0, 1, api.ErrCons}, {math.MaxInt, 0, 1, api.ErrCons},
		{0, 0, 0, api.ErrCons}, {0, 0, -1, api.ErrCons}, {0, 0, 1000, api.OK}, {0, 0, 1001, api.ErrCons}, {0, 0, math.MaxInt, api.ErrCons}, {0, 0, math.MinInt, api.ErrCons},
		{0, -1, 1, api.ErrCons}, {0, 1, 1, api.ErrCons}, {0, 1, 2, api.OK}, {0, 2, 2, api.ErrCons}, {0, 999, 1000, api.OK}, {0, 1000, 1000, api.ErrCons},
		{0, 1000, 1001, api.ErrCons}, {0, -1, 0, api.ErrCons}, {0, -2, -1, api.ErrCons}, {0, math.MinInt, 1, api.ErrCons}, {0, math.MaxInt, 1, api.ErrCons}, {100, 999, 1000, api.OK},
	} {
		for place := range 5 {
			p := program()
			p.Cons = slices.Insert(own(), place, api.Cons{Name: "C", Arity: c.arity, Tag: c.tag, Family: c.family})
			wantLint(t, "a constructor "+strconv.Itoa(c.arity)+" "+strconv.Itoa(c.tag)+" "+strconv.Itoa(c.family), c.want, p)
		}
	}
	for place := range 5 {
		for _, c := range append(own(), api.Cons{Name: "", Family: 1}, api.Cons{Name: api.Box, Arity: 2, Family: 1}) {
			p := program()
			p.Cons = slices.Insert(own(), place, c)
			wantLint(t, "a constructor named "+c.Name, api.ErrCons, p)
		}
	}
	p := program()
	p.Cons = append(own(), api.Cons{Name: "C", Family: 1}, api.Cons{Name: "D", Family: 1}, api.Cons{Name: "C", Arity: 1, Family: 1})
	wantLint(t, "twice, others between", api.ErrCons, p)
	p.Cons = append(own(), api.Cons{Name: "C", Family: 3}, api.Cons{Name: "D", Family: 3})
	wantLint(t, "the same Tag twice", api.OK, p)
}

// P10.1, 6: the constructors that each program has.
func TestOwnCons(t *testing.T) {
	for i, c := range own() {
		p := program()
		p.Cons = slices.Delete(own(), i, i+1)
		wantLint(t, "without "+c.Name, api.ErrArity, p)
		p.Cons = append(p.Cons, api.Cons{Name: c.Name + ".", Arity: c.Arity, Tag: c.Tag, Family: c.Family})
		wantLint(t, "another one than "+c.Name, api.ErrArity, p)
		for _, other := range []api.Cons{
			{Name: c.Name, Arity: c.Arity + 1, Tag: c.Tag, Family: c.Family},
			{Name: c.Name, Arity: 1 - c.Arity, Tag: c.Tag, Family: c.Family},
			{Name: c.Name, Arity: c.Arity, Tag: c.Tag, Family: c.Family + 1},
			{Name: c.Name, Arity: c.Arity, Tag: 1 - c.Tag, Family: 2},
			{Name: c.Name, Arity: c.Arity, Tag: 0, Family: 3 - c.Family},
		} {
			p := program()
			p.Binds[0].Expr = lit(1)
			p.Cons = own()
			if other != c {
				p.Cons[i] = other
				wantLint(t, "another "+c.Name, api.ErrArity, p)
			}
			slices.Reverse(p.Cons)
			p.Cons[3-i] = c
			wantLint(t, "in another order", api.OK, p)
		}
	}
	wantLint(t, "nothing", api.ErrArity, api.Program{})
	wantLint(t, "nothing but a main", api.ErrArity, api.Program{Binds: []api.Bind{bind(api.Main, lit(1))}})
}
