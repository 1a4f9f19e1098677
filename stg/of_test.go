package stg_test

import (
	"math"
	"slices"
	"strconv"
	"strings"
	"testing"

	"teasel/api"
	"teasel/stg"
)

// The chapter's examples.
func TestExamples(t *testing.T) {
	p := program(bind(api.Main, lam("s", app(v("f"), box(app(v("f"), v("s"))), lit(3)))), bind("f", lam("x", v("x"))))
	q := made(t, p)
	want := []api.SBind{
		{Name: api.Main, Kind: api.SFun, Params: []string{"s"}, Body: []api.Stg{{Kind: api.SRec,
			Binds: []api.SBind{
				{Name: "t#2", Kind: api.SThunk, Free: []string{"s"}, Update: true, Body: []api.Stg{{Kind: api.SCall, Name: "f", Args: []api.Atom{{Name: "s"}}}}},
				{Name: "t#1", Kind: api.SCell, Con: api.Box, Args: []api.Atom{{Name: "t#2"}}},
			},
			Subs: []api.Stg{{Kind: api.SCall, Name: "f", Args: []api.Atom{{Name: "t#1"}, {N: 3}}}},
		}}},
		{Name: "f", Kind: api.SFun, Params: []string{"x"}, Body: []api.Stg{{Kind: api.SAtom, Args: []api.Atom{{Name: "x"}}}}},
	}
	if !equalSPrograms(q, api.SProgram{Cons: cons(), Binds: want}) {
		t.Error(saySBinds(q.Binds))
	}
	want = []api.SBind{{Name: api.Main, Kind: api.SFun, Params: []string{"x"}, Body: []api.Stg{{Kind: api.SCase, Name: "t#1",
		Subs: []api.Stg{{Kind: api.SAtom, Args: []api.Atom{{Name: "x"}}}},
		Alts: []api.SAlt{{Kind: api.Default, Body: api.Stg{Kind: api.SPrim, Op: api.Add, Args: []api.Atom{{Name: "t#1"}, {N: 1}}}}},
	}}}}
	q = made(t, program(bind(api.Main, lam("x", add(v("x"), lit(1))))))
	if !equalSPrograms(q, api.SProgram{Cons: cons(), Binds: want}) {
		t.Error(saySBinds(q.Binds))
	}
	wantBinds(t, "Main.main = fun [] s -> rec {x = once [] (#9)} in case x as y of {_ -> y}",
		bind(api.Main, lam("s", let1("x", get(), cas(v("x"), "y", other(v("y")))))))
}

// P16.1: each Kind alone.
func TestKinds(t *testing.T) {
	a, b, c, s, f := v("a"), v("b"), v("c"), v("s"), v("f")
	want(t, a, "a")
	want(t, f, "f")
	want(t, v(api.Main), "Main.main")
	want(t, lit(0), "0")
	want(t, lit(-7), "-7")
	want(t, lit(math.MinInt), strconv.Itoa(math.MinInt))
	want(t, lam("x", v("x")), "rec {t#1 = fun [] x -> x} in t#1")
	want(t, lam("x y z", v("y")), "rec {t#1 = fun [] x y z -> y} in t#1")
	want(t, lam("x", app(b, v("x"), a)), "rec {t#1 = fun [a b] x -> (b x a)} in t#1")
	want(t, con("Nil"), "(!Nil)")
	want(t, pair(a, lit(2)), "(!Pair a 2)")
	want(t, pair(lit(2), f), "(!Pair 2 f)")
	want(t, app(f, a), "(f a)")
	want(t, app(a, lit(1), a, f), "(a 1 a f)")
	want(t, app(lit(1), a), "case 1 as t#1 of {_ -> (t#1 a)}")
	want(t, app(get(), a, lit(2)), "case (#9) as t#1 of {_ -> (t#1 a 2)}")
	want(t, app(con("Nil"), lit(2)), "case (!Nil) as t#1 of {_ -> (t#1 2)}")
	want(t, app(lam("x", a), s), "case rec {t#2 = fun [a] x -> a} in t#2 as t#1 of {_ -> (t#1 s)}")
	want(t, app(app(a, b), c), "case (a b) as t#1 of {_ -> (t#1 c)}")
	want(t, app(let1("x", get(), v("x")), c), "case rec {x = once [] (#9)} in x as t#1 of {_ -> (t#1 c)}")
	want(t, app(cas(a, "x", other(v("x"))), c), "case case a as x of {_ -> x} as t#1 of {_ -> (t#1 c)}")
	for op := api.Add; op <= api.Le; op++ {
		n := "(#" + strconv.Itoa(op)
		want(t, prim(op, lit(4), lit(-5)), n+" 4 -5)")
		want(t, prim(op, a, lit(5)), "case a as t#1 of {_ -> "+n+" t#1 5)}")
		want(t, prim(op, lit(5), a), "case a as t#1 of {_ -> "+n+" 5 t#1)}")
		want(t, prim(op, a, b), "case a as t#1 of {_ -> case b as t#2 of {_ -> "+n+" t#1 t#2)}}")
		want(t, prim(op, a, a), "case a as t#1 of {_ -> case a as t#2 of {_ -> "+n+" t#1 t#2)}}")
	}
	want(t, get(), "(#9)")
	want(t, raise(), "(#11)")
	want(t, prim(api.Put, lit(65)), "(#10 65)")
	want(t, prim(api.Put, a), "case a as t#1 of {_ -> (#10 t#1)}")
	want(t, prim(api.Put, get()), "case (#9) as t#1 of {_ -> (#10 t#1)}")
	want(t, prim(api.Put, con("Nil")), "case (!Nil) as t#1 of {_ -> (#10 t#1)}")
	want(t, prim(api.Put, lam("x", a)), "case rec {t#2 = fun [a] x -> a} in t#2 as t#1 of {_ -> (#10 t#1)}")
}

// P16.1: Lets.
func TestLets(t *testing.T) {
	a, b, s, x, y := v("a"), v("b"), v("s"), v("x"), v("y")
	want(t, let1("x", lam("k", a), x), "rec {x = fun [a] k -> a} in x")
	want(t, let1("x", lam("k", x), x), "rec {x = fun [x] k -> x} in x")
	want(t, let1("x", con("Nil"), x), "rec {x = !Nil} in x")
	want(t, let1("x", pair(a, lit(1)), x), "rec {x = !Pair a 1} in x")
	want(t, let1("x", pair(a, x), x), "rec {x = !Pair a x} in x")
	want(t, let1("x", lit(3), x), "rec {x = once [] 3} in x")
	want(t, let1("x", a, x), "rec {x = once [a] a} in x")
	want(t, let1("x", app(v("f"), a), app(a, x)), "rec {x = thunk [a] (f a)} in (a x)")
	want(t, let1("x", get(), lit(1)), "rec {x = thunk [] (#9)} in 1")
	want(t, let1("x", add(b, a), lit(1)), "rec {x = thunk [a b] case b as t#1 of {_ -> case a as t#2 of {_ -> (#1 t#1 t#2)}}} in 1")
	want(t, let1("x", let1("y", a, y), x), "rec {x = once [a] rec {y = once [a] a} in y} in x")
	want(t, let1("x", cas(a, "y", other(s)), app(x, x)), "rec {x = thunk [a s] case a as y of {_ -> s}} in (x x)")
	// one after the other
	want(t, let(x, bind("x", get()), bind("y", lam("k", b)), bind("z", pair(x, y))), "rec {x = thunk [] (#9); y = fun [b] k -> b; z = !Pair x y} in x")
	want(t, let(y, bind("x", app(y, x, a)), bind("y", app(x, y, b))), "rec {x = thunk [a x y] (y x a); y = thunk [b x y] (x y b)} in y")
	want(t, let(app(x, y), bind("z", y), bind("y", x), bind("x", v("z"))), "rec {z = thunk [y] y; y = thunk [x] x; x = thunk [z] z} in (x y)")
	// a cell's fields are bound ahead of it
	want(t, let1("x", pair(get(), con("Nil")), x), "rec {t#1 = thunk [] (#9); t#2 = !Nil; x = !Pair t#1 t#2} in x")
	want(t, let1("x", pair(app(x, a), x), x), "rec {t#1 = thunk [a x] (x a); x = !Pair t#1 x} in x")
	want(t, let(get(), bind("x", pair(get(), lit(1))), bind("y", box(lam("k", x)))), "rec {t#1 = thunk [] (#9); x = !Pair t#1 1; t#2 = fun [x] k -> x; y = !Prim.Box t#2} in (#9)")
	// in one another
	want(t, let1("x", a, let1("y", x, y)), "rec {x = thunk [a] a} in rec {y = once [x] x} in y")
	want(t, let1("x", let1("y", con("Nil"), y), app(x, x)), "rec {x = thunk [] rec {y = !Nil} in y} in (x x)")
}

// P16.1: Cases, with each Kind of alternative.
func TestCases(t *testing.T) {
	a, b, x := v("a"), v("b"), v("x")
	want(t, cas(a, "x", other(x)), "case a as x of {_ -> x}")
	want(t, cas(lit(3), "x", litAlt(3, a), litAlt(-1, x)), "case 3 as x of {3 -> a; -1 -> x}")
	want(t, cas(a, "x", litAlt(0, lit(1)), other(lit(2))), "case a as x of {0 -> 1; _ -> 2}")
	want(t, cas(app(a, b), "x", conAlt("Nil", "", lit(1)), conAlt("Cons", "h r", app(v("h"), v("r"), x))), "case (a b) as x of {Nil -> 1; Cons h r -> (h r x)}")
	want(t, cas(a, "x", conAlt("Cons", "h r", v("r")), other(a)), "case a as x of {Cons h r -> r; _ -> a}")
	want(t, cas(cas(a, "x", other(x)), "y", other(v("y"))), "case case a as x of {_ -> x} as y of {_ -> y}")
	want(t, cas(lam("k", v("k")), "x", other(x)), "case rec {t#1 = fun [] k -> k} in t#1 as x of {_ -> x}")
	want(t, cas(con("Nil"), "x", conAlt("Nil", "", x)), "case (!Nil) as x of {Nil -> x}")
	// fresh names: those of the scrutinee, then alternative by alternative
	want(t, cas(prim(api.Put, a), "x", litAlt(1, prim(api.Put, b)), litAlt(2, lam("k", x)), other(prim(api.Put, x))),
		"case case a as t#1 of {_ -> (#10 t#1)} as x of {1 -> case b as t#2 of {_ -> (#10 t#2)}; 2 -> rec {t#3 = fun [x] k -> x} in t#3; _ -> case x as t#4 of {_ -> (#10 t#4)}}")
}

// sorts is arguments of each sort, with the binds that they need as texts, if any,
// in which %1 and %2 stand for fresh names. The names that they bind end in n.
func sorts(n string) ([]api.Expr, []string) {
	a, k, x, y := v("a"), "k"+n, "x"+n, "y"+n
	return []api.Expr{
		a, v("f"), lit(-2), lam(k, a), con("Nil"), box(lit(1)), app(a, a), app(lit(1), a), get(), let1(x, get(), v(x)), cas(a, y, litAlt(1, v(y))),
	}, []string{
		"", "", "", "%1 = fun [a] " + k + " -> a", "%1 = !Nil", "%1 = !Prim.Box 1", "%1 = thunk [a] (a a)", "%1 = thunk [a] case 1 as %2 of {_ -> (%2 a)}",
		"%1 = thunk [] (#9)", "%1 = thunk [] rec {" + x + " = once [] (#9)} in " + x, "%1 = thunk [a] case a as " + y + " of {1 -> " + y + "}",
	}
}

// P16.1: arguments of each sort, in every place.
func TestArguments(t *testing.T) {
	ones, _ := sorts("")
	count := len(ones)
	for i := range count * count * count {
		next := 1
		take := func() string {
			next++
			return "t#" + strconv.Itoa(next-1)
		}
		var args []api.Expr
		var binds []string
		around, atoms := "", ""
		for place, sort := range []int{i % count, i / count % count, i / count / count} {
			all, texts := sorts(strconv.Itoa(place))
			args = append(args, all[sort])
			text := texts[sort]
			if text == "" {
				atoms += " " + say(all[sort])
				continue
			}
			name := take()
			if text = strings.ReplaceAll(text, "%1", name); strings.Contains(text, "%2") {
				text = strings.ReplaceAll(text, "%2", take())
			}
			binds, around, atoms = append(binds, text), around+"rec {"+text+"} in ", atoms+" "+name
		}
		want(t, app(append([]api.Expr{v("f")}, args...)...), around+"(f"+atoms+")")
		want(t, app(append([]api.Expr{v("b")}, args...)...), around+"(b"+atoms+")")
		many := con("Many", append(args, lit(4), v("b"))...)
		want(t, many, around+"(!Many"+atoms+" 4 b)")
		want(t, let1("z", many, v("z")), "rec {"+strings.Join(append(binds, "z = !Many"+atoms+" 4 b"), "; ")+"} in z")
	}
}

// P16.1: arguments in arguments, deep ones, and which names they take.
func TestArgumentsWithin(t *testing.T) {
	a, f := v("a"), v("f")
	call := func(e api.Expr) api.Expr { return app(f, e) }
	want(t, call(call(call(a))), "rec {t#1 = thunk [a] rec {t#2 = thunk [a] (f a)} in (f t#2)} in (f t#1)")
	want(t, box(box(box(a))), "rec {t#2 = !Prim.Box a; t#1 = !Prim.Box t#2} in (!Prim.Box t#1)")
	want(t, pair(pair(call(a), get()), pair(call(lit(1)), lit(2))),
		"rec {t#2 = thunk [a] (f a); t#3 = thunk [] (#9); t#1 = !Pair t#2 t#3} in rec {t#5 = thunk [] (f 1); t#4 = !Pair t#5 2} in (!Pair t#1 t#4)")
	want(t, pair(call(pair(get(), call(get()))), lam("k", call(lam("j", a)))),
		"rec {t#1 = thunk [] rec {t#3 = thunk [] (#9); t#4 = thunk [] rec {t#5 = thunk [] (#9)} in (f t#5); t#2 = !Pair t#3 t#4} in (f t#2)} in rec {t#6 = fun [a] k -> rec {t#7 = fun [a] j -> a} in (f t#7)} in (!Pair t#1 t#6)")
	want(t, let1("x", pair(box(call(a)), box(get())), lam("k", v("x"))),
		"rec {t#2 = thunk [a] (f a); t#1 = !Prim.Box t#2; t#4 = thunk [] (#9); t#3 = !Prim.Box t#4; x = !Pair t#1 t#3} in rec {t#5 = fun [x] k -> x} in t#5")
	want(t, add(add(a, lit(1)), add(call(a), call(get()))),
		"case case a as t#2 of {_ -> (#1 t#2 1)} as t#1 of {_ -> case case (f a) as t#4 of {_ -> case rec {t#6 = thunk [] (#9)} in (f t#6) as t#5 of {_ -> (#1 t#4 t#5)}} as t#3 of {_ -> (#1 t#1 t#3)}}")
	want(t, app(app(app(f, get()), get()), get()),
		"case case rec {t#3 = thunk [] (#9)} in (f t#3) as t#2 of {_ -> rec {t#4 = thunk [] (#9)} in (t#2 t#4)} as t#1 of {_ -> rec {t#5 = thunk [] (#9)} in (t#1 t#5)}")
	want(t, app(lam("k", call(v("k"))), lam("j", get())), "case rec {t#2 = fun [] k -> (f k)} in t#2 as t#1 of {_ -> rec {t#3 = fun [] j -> (#9)} in (t#1 t#3)}")
	want(t, lam("k", lam("j", lam("i", app(v("k"), v("j"), v("i"))))), "rec {t#1 = fun [] k -> rec {t#2 = fun [k] j -> rec {t#3 = fun [j k] i -> (k j i)} in t#3} in t#2} in t#1")
}

// P16.1: binds at the top.
func TestTops(t *testing.T) {
	main, s, m, f, g, k := bind(api.Main, lam("s", lit(1))), v("s"), v(api.Main), v("f"), v("g"), v("k")
	with := func(want string, binds ...api.Bind) {
		t.Helper()
		wantBinds(t, "Main.main = fun [] s -> 1; "+want, append([]api.Bind{main}, binds...)...)
	}
	with("f = thunk [] 7", bind("f", lit(7)))
	with("f = thunk [] Main.main", bind("f", m))
	with("f = thunk [] f", bind("f", f))
	with("f = fun [] x y -> (y x f)", bind("f", lam("x y", app(v("y"), v("x"), f))))
	with("f = thunk [] (Main.main 1)", bind("f", app(m, lit(1))))
	with("f = thunk [] (#9)", bind("f", get()))
	with("f = thunk [] rec {x = once [] (#9)} in x", bind("f", let1("x", get(), v("x"))))
	with("f = thunk [] case (#9) as x of {-1 -> 2; _ -> x}", bind("f", cas(get(), "x", litAlt(-1, lit(2)), other(v("x")))))
	with("f = !Nil", bind("f", con("Nil")))
	with("f = !Pair f 3", bind("f", pair(f, lit(3))))
	with("f = fun [] k -> rec {t#1 = fun [k] j -> (f k)} in t#1", bind("f", lam("k", lam("j", app(f, k)))))
	// what fields need stands at the top as well, ahead of the constructor
	with("t#1 = thunk [] (f 1); t#2 = fun [] k -> k; f = !Pair t#1 t#2", bind("f", pair(app(f, lit(1)), lam("k", k))))
	with("t#3 = thunk [] (#9); t#2 = !Prim.Box t#3; t#4 = fun [] k -> f; t#1 = !Pair t#2 t#4; f = !Prim.Box t#1; g = fun [] j -> rec {t#5 = thunk [] (#9)} in (f t#5)",
		bind("f", box(pair(box(get()), lam("k", f)))), bind("g", lam("j", app(f, get()))))
	with("t#1 = !Nil; f = !Prim.Box t#1; t#2 = !Nil; g = !Prim.Box t#2", bind("f", box(con("Nil"))), bind("g", box(con("Nil"))))
	with("t#1 = thunk [] rec {t#2 = thunk [] (g f)} in (f t#2); f = !Prim.Box t#1; g = thunk [] rec {t#3 = !Prim.Box f} in (f t#3)",
		bind("f", box(app(f, app(g, f)))), bind("g", app(f, box(f))))
	// main of each sort, in each place
	wantBinds(t, "g = thunk [] Main.main; t#1 = thunk [] (g 1); Main.main = !Prim.Box t#1; f = thunk [] g", bind("g", m), bind(api.Main, box(app(g, lit(1)))), bind("f", g))
	wantBinds(t, "Main.main = thunk [] Main.main", bind(api.Main, m))
	wantBinds(t, "f = fun [] x -> x; Main.main = thunk [] rec {t#1 = fun [] s -> s} in (f t#1)", bind("f", lam("x", v("x"))), bind(api.Main, app(f, lam("s", s))))
}

// P16.1: fresh names are t#n from core.Next of the program on.
func TestFresh(t *testing.T) {
	s, f := v("s"), v("f")
	two := func(binder api.Bind, names string) api.Program {
		return program(bind(api.Main, lam(names, add(app(f, get()), s))), binder)
	}
	for _, c := range []struct {
		binder api.Bind
		names  string
		first  int
	}{
		{bind("f", lam("x", v("x"))), "s", 1},
		{bind("f", lam("t#1", lit(1))), "s", 2},
		{bind("f", lam("x", lit(1))), "s t#8", 9},
		{bind("f", lam("x t#3 t#2", lit(1))), "s", 4},
		{bind("f", lam("x", let1("t#41", lit(1), lit(2)))), "s", 42},
		{bind("f", lam("x", cas(lit(1), "t#5", other(lit(2))))), "s t#4", 6},
		{bind("f", lam("x", cas(lit(1), "k", conAlt("Pair", "t#17 j", lit(2))))), "s", 18},
		// what is no such name
		{bind("f", lam("t#0 t#07 t#x t#-9 t# t5 T#6 t##7 t#+8", lit(1))), "s t#1234567890", 1},
		{bind("f", lam("t#99999999", lit(1))), "s", 100000000},
		{bind("f", lam("t#999999999", lit(1))), "s", 1000000000},
	} {
		fresh := func(n int) string { return "t#" + strconv.Itoa(c.first+n) }
		q := made(t, two(c.binder, c.names))
		want := "case rec {" + fresh(1) + " = thunk [] (#9)} in (f " + fresh(1) + ") as " + fresh(0) + " of {_ -> case s as " + fresh(2) + " of {_ -> (#1 " + fresh(0) + " " + fresh(2) + ")}}"
		if got := sayStg(q.Binds[0].Body[0]); got != want {
			t.Errorf("%s:\ngot  %s\nwant %s", c.names, got, want)
		}
	}
	// names with ten digits count for none, also if a fresh one is the same
	p := two(bind("f", lam("t#999999999 t#1000000001", lam("k", v("t#1000000001")))), "s")
	if q, errno := stg.Of(p); errno != api.OK || !equalSPrograms(q, refOf(p)) {
		t.Error(errno, saySBinds(q.Binds))
	}
	// a Bind at the top
	wantBinds(t, "Main.main = fun [] s -> rec {t#7 = thunk [] (#9)} in (t#6 t#7); t#6 = fun [] x -> x", bind(api.Main, lam("s", app(v("t#6"), get()))), bind("t#6", lam("x", v("x"))))
}

// P16.1: Free: rising by bytes, each once, without what is bound at the top or
// within.
func TestFree(t *testing.T) {
	call := func(names string) api.Expr {
		e := app()
		for _, name := range strings.Fields(names) {
			e.Subs = append(e.Subs, v(name))
		}
		return e
	}
	free := func(names string, e api.Expr, want string) {
		t.Helper()
		for _, b := range []api.Expr{app(v("A.top"), e), lam("p q", e), let1("l", e, v("l")), cas(e, "l", other(v("l")))} {
			p := program(bind("B.top", lam("x y", v("x"))), bind(api.Main, lam(names, app(v("A.top"), b))), bind("A.top", lit(1)))
			rec := made(t, p).Binds[1].Body[0].Binds[0]
			if got := strings.Join(rec.Free, " "); got != want {
				t.Errorf("%s: got %q, want %q", say(b), got, want)
			}
		}
	}
	free("a b c", call("c b a b c"), "a b c")
	free("a B b ab a' é z Z _ 10 9", call("z é ab a' b B a Z _ 9 10"), "10 9 B Z _ a a' ab b z é")
	free("a b c", call("B.top a Main.main A.top"), "a")
	free("a b c", call("A.top B.top"), "")
	free("a b c", lit(1), "")
	free("a b c", lam("d e", call("d e b")), "b")
	free("a b c", let(call("d c e"), bind("d", call("e a")), bind("e", call("d d"))), "a c")
	free("a b c", cas(call("b b"), "d", conAlt("Pair", "e f", call("e f d a")), other(call("d d"))), "a b")
	free("a b c", pair(call("c c"), box(lam("d", call("d a")))), "a c") // in its fields
	free("a b c", add(v("b"), prim(api.Put, v("a"))), "a b")
	free("a b c", lam("d", lam("e", lam("f", call("f e d c")))), "c")
	// what is around a closure has what is free in it, if it does not bind that
	want(t, lam("x", let1("y", lam("z", call("x y z a b s")), call("y c"))), "rec {t#1 = fun [a b c s] x -> rec {y = fun [a b s x y] z -> (x y z a b s)} in (y c)} in t#1")
	want(t, let(lit(1), bind("x", lam("k", call("y a"))), bind("y", lam("j", call("x b")))), "rec {x = fun [a y] k -> (y a); y = fun [b x] j -> (x b)} in 1")
	want(t, let1("x", pair(call("x a"), lam("k", call("x b"))), lit(1)), "rec {t#1 = thunk [a x] (x a); t#2 = fun [b x] k -> (x b); x = !Pair t#1 t#2} in 1")
	// a fresh name is free nowhere
	want(t, lam("x", app(app(v("x"), get()), add(v("a"), get()))),
		"rec {t#1 = fun [a] x -> case rec {t#3 = thunk [] (#9)} in (x t#3) as t#2 of {_ -> rec {t#4 = thunk [a] case a as t#5 of {_ -> case (#9) as t#6 of {_ -> (#1 t#5 t#6)}}} in (t#2 t#4)}} in t#1")
}

// updates is how each thunk of a name is: U with Update, 1 without.
func updates(e api.Stg, name string) string {
	text := ""
	for _, b := range e.Binds {
		if b.Name == name && b.Kind == api.SThunk {
			text += map[bool]string{true: "U", false: "1"}[b.Update]
		}
		for _, body := range b.Body {
			text += updates(body, name)
		}
	}
	for _, s := range e.Subs {
		text += updates(s, name)
	}
	for _, a := range e.Alts {
		text += updates(a.Body, name)
	}
	return text
}

// P16.1: Update: whether a thunk may be evaluated more than once.
func TestUpdate(t *testing.T) {
	a, b, x, y := v("a"), v("b"), v("x"), v("y")
	put := func(e api.Expr) api.Expr { return prim(api.Put, e) }
	in := func(body api.Expr, want string) {
		t.Helper()
		for _, r := range []api.Expr{get(), a, lit(4), app(a, b), app(lit(1), b), let1("r", get(), v("r")), cas(a, "r", other(v("r")))} {
			p := program(append(tops(), mainOf(let1("x", r, body)))...)
			if got := updates(made(t, p).Binds[2].Body[0], "x"); got != want {
				t.Errorf("%s: got %q, want %q", sayProgram(p), got, want)
			}
			// a binding of the same in another Let's, or of several, is none of one
			p = program(append(tops(), mainOf(let(body, bind("x", r), bind("other", lit(1)))))...)
			if got := updates(made(t, p).Binds[2].Body[0], "x"); got != "U" {
				t.Errorf("%s: got %q", sayProgram(p), got)
			}
			// one that uses itself
			p = program(append(tops(), mainOf(let1("x", cas(lit(1), "u", litAlt(1, r), other(x)), body)))...)
			if got := updates(made(t, p).Binds[2].Body[0], "x"); got != "U" {
				t.Errorf("%s: got %q", sayProgram(p), got)
			}
		}
	}
	// straight ways
	in(x, "1")
	in(app(x, a), "1")
	in(app(app(x, a), b), "1")
	in(put(x), "1")
	in(add(x, a), "1")
	in(add(a, x), "1")
	in(add(lit(1), add(lit(2), x)), "1")
	in(cas(x, "y", other(y)), "1")
	in(cas(x, "y", conAlt("Pair", "p q", app(y, y, v("p")))), "1")
	in(cas(a, "y", other(x)), "1")
	in(cas(a, "y", litAlt(1, lit(2)), litAlt(2, x), other(y)), "1")
	in(cas(a, "y", conAlt("Nil", "", b), conAlt("Cons", "p q", app(x, y))), "1")
	in(let1("y", get(), x), "1")
	in(let(x, bind("y", get()), bind("z", y)), "1")
	in(let1("y", get(), add(y, app(cas(put(x), "z", other(b)), y))), "1")
	in(app(let1("y", lam("k", a), cas(a, "z", other(x))), a), "1")
	// others
	in(a, "U")
	in(lit(1), "U")
	in(app(a, x), "U")
	in(app(x, x), "U")
	in(app(a, b, x), "U")
	in(app(a, app(x, a)), "U")
	in(con(api.Box, x), "U")
	in(pair(a, add(x, lit(1))), "U")
	in(con(api.Box, box(x)), "U")
	in(lam("k", x), "U")
	in(app(lam("k", x), a), "U")
	in(cas(lam("k", x), "y", other(app(y, a))), "U")
	in(add(x, x), "U")
	in(cas(x, "y", other(x)), "U")
	in(cas(a, "y", litAlt(1, x), other(x)), "U")
	in(add(x, app(a, x)), "U")
	in(app(x, lam("k", x)), "U")
	in(let1("y", x, y), "U")
	in(let1("y", x, x), "U")
	in(let1("y", app(x, a), x), "U")
	in(let1("y", lam("k", x), y), "U")
	in(let1("y", pair(x, a), y), "U")
	in(let1("y", pair(app(x, a), a), y), "U")
	in(let(y, bind("y", a), bind("z", x)), "U")
	// the expression of a Let's bind is another place than the Let
	want(t, let1("x", get(), let1("y", add(x, lit(1)), y)), "rec {x = thunk [] (#9)} in rec {y = once [x] case x as t#1 of {_ -> (#1 t#1 1)}} in y")
	want(t, let1("x", let1("y", get(), y), lam("k", x)), "rec {x = thunk [] rec {y = once [] (#9)} in y} in rec {t#1 = fun [x] k -> x} in t#1")
	want(t, lam("k", let1("x", get(), x)), "rec {t#1 = fun [] k -> rec {x = once [] (#9)} in x} in t#1")
	want(t, app(a, let1("x", get(), x)), "rec {t#1 = thunk [] rec {x = once [] (#9)} in x} in (a t#1)")
	// what fresh names are bound to is updated
	want(t, app(a, get()), "rec {t#1 = thunk [] (#9)} in (a t#1)")
	want(t, box(get()), "rec {t#1 = thunk [] (#9)} in (!Prim.Box t#1)")
	want(t, let1("x", box(get()), x), "rec {t#1 = thunk [] (#9); x = !Prim.Box t#1} in x")
	want(t, let1("x", box(get()), cas(x, "y", conAlt(api.Box, "k", v("k")))), "rec {t#1 = thunk [] (#9); x = !Prim.Box t#1} in case x as y of {Prim.Box k -> k}")
	// neither functions nor cells are
	want(t, let1("x", lam("k", a), app(x, a, x)), "rec {x = fun [a] k -> a} in (x a x)")
	for _, body := range []api.Expr{x, app(x, x), app(a, x)} {
		for _, r := range []api.Expr{lam("k", a), con("Nil"), box(a), box(app(a, x))} {
			q := made(t, program(mainOf(let1("x", r, body))))
			binds := q.Binds[0].Body[0].Binds
			if b := binds[len(binds)-1]; b.Update || b.Name != "x" || b.Kind == api.SThunk {
				t.Errorf("%+v", b)
			}
		}
	}
	// at the top all are, however often they are used
	wantBinds(t, "Main.main = fun [] s -> g; g = thunk [] (#9); t#1 = thunk [] (#9); h = !Prim.Box t#1", bind(api.Main, lam("s", v("g"))), bind("g", get()), bind("h", box(get())))
}

// P16.1: the Cons are those of p.
func TestCons(t *testing.T) {
	p := program(bind(api.Main, lit(1)))
	for _, more := range [][]api.Cons{nil, {{Name: "Z", Arity: 100, Tag: 999, Family: 1000}}, {{Name: "Z", Family: 1}, {Name: "A", Family: 1}}} {
		p.Cons = slices.Concat(more, cons(), []api.Cons{{Name: "É", Arity: 3, Family: 7, Tag: 6}})
		if q := made(t, p); !slices.Equal(q.Cons, p.Cons) || saySBinds(q.Binds) != "Main.main = thunk [] 1" {
			t.Error(q)
		}
	}
}

// P16.1: Lint's errors, with nothing else.
func TestErrors(t *testing.T) {
	main := mainOf(lit(1))
	deep := lit(1)
	for range api.MaxDepth {
		deep = box(deep)
	}
	for _, c := range []struct {
		p    api.Program
		want api.Errno
	}{
		{program(main, bind("f", app(slices.Repeat([]api.Expr{lit(1)}, api.MaxNodes)...))), api.ErrBig},
		{program(main, bind("f", deep)), api.ErrDeep},
		{program(main, bind("f", api.Expr{})), api.ErrShape},
		{program(main, bind("f", api.Expr{Kind: api.Lit, Name: "x"})), api.ErrShape},
		{program(main, bind("f", prim(12, lit(1)))), api.ErrShape},
		{api.Program{Cons: append(cons(), cons()...), Binds: []api.Bind{main}}, api.ErrCons},
		{program(main, main), api.ErrName},
		{program(main, bind("f", lam("x x", lit(1)))), api.ErrName},
		{program(main, bind("f", v("x"))), api.ErrScope},
		{program(main, bind("f", app(lit(1)))), api.ErrArity},
		{program(main, bind("f", con("None"))), api.ErrArity},
		{program(main, bind("f", cas(lit(1), "x"))), api.ErrAlts},
		{program(main, bind("f", cas(lit(1), "x", other(lit(1)), litAlt(1, lit(1))))), api.ErrAlts},
		{program(bind("f", lit(1))), api.ErrNoMain},
		{api.Program{}, api.ErrArity},
	} {
		if q, errno := stg.Of(c.p); errno != c.want || !isZero(q) {
			t.Errorf("got %v, want %v", errno, c.want)
		}
	}
	if _, errno := stg.Of(program(main)); errno != api.OK {
		t.Error(errno)
	}
}
