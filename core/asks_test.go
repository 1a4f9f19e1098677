package core_test

import (
	"testing"

	"teasel/api"
	"teasel/core"
)

// The chapter's examples.
func TestAskExamples(t *testing.T) {
	e := app(v("f"), v("x"), lam("y", v("y")))
	wantWords(t, "Free", core.Free(e), "f x")
	if core.Size(e) != 5 || core.Depth(e) != 3 {
		t.Error(core.Size(e), core.Depth(e))
	}
}

// P10.2: the names that are free in each Kind.
func TestFree(t *testing.T) {
	x, y, one := v("x"), v("y"), lit(1)
	for _, c := range []struct {
		e    api.Expr
		want string
	}{
		{x, "x"}, {one, ""}, {lam("x", x), ""}, {lam("y", x), "x"}, {lam("x y z", app(x, y, v("z"), v("w"))), "w"}, {lam("", x), "x"},
		{app(x, y), "x y"}, {app(y, x, y), "x y"}, {app(x, x, x), "x"},
		{let(x, bind("x", one)), ""}, {let(y, bind("x", one)), "y"}, {let(one, bind("x", y)), "y"}, {let(one, bind("x", x)), ""},
		{let(one, bind("x", y), bind("y", one)), ""}, {let(one, bind("y", one), bind("x", y)), ""}, {let(app(x, y, v("z")), bind("x", v("w")), bind("z", y)), "w y"}, {let(x), "x"},
		{cas(x, "x", other(x)), "x"}, {cas(one, "x", other(x)), ""}, {cas(y, "x", litAlt(1, x), other(v("z"))), "y z"}, {cas(x, "y"), "x"}, {cas(one, "y"), ""},
		{cas(one, "c", conAlt("C", "x y", app(x, y))), ""}, {cas(one, "c", conAlt("C", "x", x), conAlt("D", "y", x)), "x"}, {cas(one, "c", conAlt("C", "x", y), other(x)), "x y"},
		{cas(one, "c", other(x), conAlt("C", "x", x)), "x"}, {cas(x, "c", conAlt("C", "x", x)), "x"}, {cas(one, "c", conAlt("C", "c x", v("c"))), ""},
		{con("C", x, y), "x y"}, {con("x"), ""}, {con("x", y), "y"}, {prim(api.Add, y, x), "x y"}, {prim(api.Get), ""}, {prim(api.Put, x), "x"},
		{lam("x", lam("x", x)), ""}, {app(lam("x", x), x), "x"}, {app(x, lam("x", x)), "x"}, {lam("x", app(lam("x", x), x)), ""}, {app(lam("x", lam("x", x)), x), "x"},
		{lam("x", app(let(x, bind("x", y)), cas(x, "x", conAlt("C", "x", x), other(x)), x)), "y"}, {lam("x x", x), ""}, {app(lam("x x", y), x), "x y"},
		{let(let(x, bind("x", x)), bind("x", x), bind("x", one)), ""}, {app(let(one, bind("x", one), bind("x", one)), x), "x"},
		{cas(cas(x, "x", other(x)), "x", other(x)), "x"}, {app(cas(one, "x", conAlt("C", "x", x), other(x)), y), "y"}, {app(cas(one, "x", conAlt("C", "x", x), other(x)), x), "x"},
		{lam("s", con(api.Box, app(v(api.Main), v(api.Unit)))), "Main.main Prim.()"}, {app(v(api.Next), con(api.Unit)), "Prim.next"},
	} {
		wantWords(t, say(c.e), core.Free(c.e), c.want)
	}
	for _, e := range within(app(v("free"), v("free"))) {
		wantWords(t, say(e), core.Free(e), "free")
		wantWords(t, say(lam("free", e)), core.Free(lam("free", e)), "")
		wantWords(t, say(let(e, bind("free", e))), core.Free(let(e, bind("free", e))), "")
		wantWords(t, say(cas(e, "free", other(e))), core.Free(cas(e, "free", other(e))), "free")
		wantWords(t, say(cas(lit(1), "free", other(e))), core.Free(cas(lit(1), "free", other(e))), "")
	}
}

// P10.2: names are in the order of their bytes.
func TestFreeOrder(t *testing.T) {
	want := "A Z _ a a#1 a' aa b t#1 t#10 t#2 \x7f \u00e9 \u20ac \U0001f600 \xff"
	names := []string{"\xff", "b", "t#2", "aa", "\u20ac", "a", "t#10", "Z", "\U0001f600", "a'", "t#1", "_", "a#1", "\x7f", "A", "\u00e9", "b", "A", "\xff"}
	e := con("C")
	for _, name := range names {
		e.Subs = append(e.Subs, v(name))
	}
	wantWords(t, "bytes", core.Free(e), want)
	e = lit(1)
	for _, name := range names {
		e = lam("u", app(v(name), e))
	}
	wantWords(t, "bytes, nested", core.Free(e), want)
	if got := core.Free(app(v(""), v("a"), lam("b", v("b")))); len(got) != 2 || got[0] != "" || got[1] != "a" {
		t.Errorf("%q", got)
	}
	if got := core.Free(api.Expr{Kind: api.Lam, Names: []string{""}, Subs: []api.Expr{v("")}}); len(got) != 0 {
		t.Errorf("%q", got)
	}
}

// P10.2: the names that each Kind binds, in order, also those that are bound
// more than once.
func TestBinders(t *testing.T) {
	b := func(names string) api.Expr { return lam(names, v("w")) }
	for _, c := range []struct {
		e    api.Expr
		want string
	}{
		{v("x"), ""}, {lit(1), ""}, {b("x y"), "x y"}, {lam("y x", b("a")), "y x a"}, {lam("", b("a")), "a"}, {app(b("b"), b("a"), b("c")), "b a c"},
		{let(b("c"), bind("b", b("d")), bind("a", b("e"))), "c b d a e"}, {let(b("c")), "c"}, {let(lit(1), bind("b", lit(2))), "b"},
		{cas(b("s"), "n", conAlt("C", "z y", b("x")), litAlt(1, b("w")), conAlt("D", "", b("v")), other(b("u"))), "s n z y x w v u"}, {cas(b("s"), "n"), "s n"},
		{con("C", b("b"), b("a")), "b a"}, {prim(api.Add, b("d"), b("c")), "d c"}, {prim(api.Get), ""},
		{lam("x", lam("x", b("x"))), "x x x"}, {lam("x x", lit(1)), "x x"}, {let(b("x"), bind("x", b("x")), bind("x", lit(1))), "x x x x"},
		{cas(b("x"), "x", conAlt("C", "x x", b("x"))), "x x x x x"}, {app(b("t#1"), b("t#1")), "t#1 t#1"},
		{let(cas(b("m"), "k", conAlt("C", "n o", v("p"))), bind("p", b("q"))), "m k n o p q"},
		{let(let(b("1"), bind("2", b("3"))), bind("4", let(b("5"), bind("6", b("7")))), bind("8", cas(b("9"), "10", other(b("11"))))), "1 2 3 4 5 6 7 8 9 10 11"},
	} {
		wantWords(t, say(c.e), core.Binders(c.e), c.want)
	}
	for _, e := range within(b("here")) {
		rest := 0
		for _, name := range core.Binders(e) {
			if name == "here" {
				rest++
			}
		}
		if rest != 1 {
			t.Error(say(e), core.Binders(e))
		}
	}
	if got := core.Binders(api.Expr{Kind: api.Lam, Names: []string{"", "a", ""}, Subs: []api.Expr{lit(1)}}); len(got) != 3 || got[0] != "" || got[1] != "a" || got[2] != "" {
		t.Errorf("%q", got)
	}
}

// P10.2: Size and Depth of each Kind.
func TestSizeAndDepth(t *testing.T) {
	two, three := app(lit(1), lit(2)), app(lit(1), app(lit(1), lit(2), lit(3)))
	for _, c := range []struct {
		e           api.Expr
		size, depth int
	}{
		{v("x"), 1, 1}, {lit(1), 1, 1}, {prim(api.Get), 1, 1}, {con("C"), 1, 1}, {lam("x y z", lit(1)), 2, 2}, {two, 3, 2}, {three, 6, 3},
		{app(three, two), 10, 4}, {app(two, three), 10, 4}, {app(lit(1), lit(1), two), 6, 3}, {let(lit(1)), 2, 2}, {let(lit(1), bind("x", lit(2))), 3, 2},
		{let(three, bind("x", two)), 10, 4}, {let(two, bind("x", two), bind("y", three)), 13, 4}, {let(two, bind("x", three), bind("y", two)), 13, 4},
		{cas(lit(1), "x"), 2, 2}, {cas(lit(1), "x", other(lit(1))), 3, 2}, {cas(three, "x", litAlt(1, two), other(lit(1))), 11, 4},
		{cas(two, "x", conAlt("C", "a b c", three), other(two)), 13, 4}, {cas(two, "x", conAlt("C", "a b c", two), other(three)), 13, 4},
		{con("C", three, two), 10, 4}, {prim(api.Add, two, three), 10, 4}, {prim(api.Put, two), 4, 3}, {lam("x", three), 7, 4},
	} {
		if size, depth := core.Size(c.e), core.Depth(c.e); size != c.size || depth != c.depth {
			t.Errorf("%s: got %d, %d, want %d, %d", say(c.e), size, depth, c.size, c.depth)
		}
	}
}

// P10.3: which binders are fresh names, and of which the n is greatest.
func TestNext(t *testing.T) {
	for name, want := range map[string]int{
		"t#1": 2, "t#3": 4, "t#9": 10, "t#10": 11, "t#19": 20, "t#123456789": 123456790, "t#999999999": 1000000000, "t#100000000": 100000001, "t#99": 100,
		"t#0": 1, "t#00": 1, "t#01": 1, "t#07": 1, "t#000000001": 1, "t#1000000000": 1, "t#9999999999": 1, "t#99999999999999999999999": 1, "t#": 1, "t": 1, "t1": 1, "#1": 1,
		"t#1a": 1, "t#a": 1, "t#a1": 1, "t#-1": 1, "t#+1": 1, "t# 1": 1, "t#1 ": 1, " t#1": 1, "T#1": 1, "t##1": 1, "t#1#2": 1, "t#1.2": 1, "m#5": 1, "tt#5": 1, "x.t#5": 1,
		"t#\u0663": 1, "t#1_0": 1, "t#0x1": 1, "t#1/": 1, "t#1:": 1, "t#/1": 1, "t#:1": 1, "x": 1, "t#5\x00": 1, "t#1e3": 1,
	} {
		for what, e := range binding(name) {
			if got := core.Next(answering(e)); got != want {
				t.Errorf("%s %q: got %d, want %d", what, name, got, want)
			}
			if got := core.Next(program(bind("q", lit(1)), bind("r", app(lit(1), lam("x", e))))); got != want {
				t.Errorf("%s %q in another Bind: got %d, want %d", what, name, got, want)
			}
		}
		if got := core.Next(program(bind(name, lit(1)))); got != want {
			t.Errorf("Bind %q: got %d, want %d", name, got, want)
		}
		// What is no binder does not count.
		e := app(v(name), con(name, v(name)), cas(v(name), "y", conAlt(name, "z", v(name))))
		p := answering(e)
		p.Cons = append(p.Cons, api.Cons{Name: name, Arity: 1, Family: 1})
		if got := core.Next(p); got != 1 {
			t.Errorf("%q, not bound: got %d", name, got)
		}
	}
	if got := core.Next(api.Program{}); got != 1 {
		t.Error(got)
	}
}

// P10.3: one more than the greatest, wherever it is.
func TestNextOfSeveral(t *testing.T) {
	e := func(names string) api.Expr { return lam(names, lit(1)) }
	for want, binds := range map[int][]api.Bind{
		4:  {bind("t#3", e("t#07"))},
		10: {bind("a", e("t#2 t#9")), bind("t#1", lit(1))},
		11: {bind("t#9", e("t#10 t#2")), bind("b", e("x t#8"))},
		13: {bind("t#1", e("t#2")), bind("t#12", e("t#3"))},
		8:  {bind("a", let(e("t#4"), bind("t#5", e("t#7")), bind("t#6", lit(1))))},
		7:  {bind("a", cas(e("t#1"), "t#3", conAlt("C", "x t#6", e("t#2")), other(e("t#4"))))},
		6:  {bind("a", cas(e("t#1"), "t#3", conAlt("C", "x", e("t#2")), other(e("t#5"))))},
		3:  {bind("a", app(v("t#9"), e("t#2 t#0 t#1234567890")))},
	} {
		if got := core.Next(api.Program{Binds: binds}); got != want {
			t.Errorf("%s: got %d, want %d", sayBinds(binds), got, want)
		}
	}
}
