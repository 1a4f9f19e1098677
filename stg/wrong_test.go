package stg_test

import (
	"math"
	"slices"
	"strings"
	"testing"

	"teasel/api"
	"teasel/core"
	"teasel/stg"
)

// wantLint holds that a program that Lint refuses is refused with its error, that
// others are accepted, and that neither takes long.
func wantLint(t *testing.T, what string, p api.Program) api.Errno {
	t.Helper()
	want := core.Lint(p)
	hold20(t, what, func() {
		q, errno := stg.Of(p)
		if errno != want || isZero(q) != (want != api.OK) {
			t.Errorf("%s: %v, want %v", what, errno, want)
		}
	})
	return want
}

// wantEnd holds that calls end for an expression.
func wantEnd(t *testing.T, what string, e api.Expr) {
	t.Helper()
	hold20(t, what, func() {
		for _, name := range []string{"x", "w"} {
			stg.Straight(e, name)
			stg.Straight(add(v("x"), e), name)
			stg.Straight(app(e, v("w")), name)
		}
	})
	wantLint(t, what, program(mainOf(e)))
	wantLint(t, what, program(bind("M.f", lam("x y", e)), mainOf(app(v("M.f"), e, e))))
}

// spoil changes something somewhere in an expression.
func (m *maker) spoil(e *api.Expr) {
	if len(e.Subs) > 0 && m.Intn(3) > 0 {
		m.spoil(&e.Subs[m.Intn(len(e.Subs))])
		return
	}
	if len(e.Binds) > 0 && m.Intn(3) > 0 {
		m.spoil(&e.Binds[m.Intn(len(e.Binds))].Expr)
		return
	}
	if len(e.Alts) > 0 && m.Intn(3) > 0 {
		m.spoil(&e.Alts[m.Intn(len(e.Alts))].Body)
		return
	}
	number := []int{-1, 0, 1, 2, 3, 4, 5, 6, 7, 8, 9, 11, 12, math.MaxInt, math.MinInt}[m.Intn(15)]
	switch m.Intn(12) {
	case 0, 1, 2:
		e.Kind = number
	case 3:
		e.N = number
	case 4:
		e.Op = number
	case 5:
		e.Name = []string{"", "x1", "x2", "Nil", "Pair"}[m.Intn(5)]
	case 6:
		e.Names = append(e.Names, []string{"", "x1", "x2", "new"}[m.Intn(4)])
	case 7:
		e.Subs = append(e.Subs, lit(number))
	case 8:
		e.Subs = e.Subs[:len(e.Subs)/2]
	case 9:
		e.Binds = append(e.Binds, bind([]string{"", "x1", "new"}[m.Intn(3)], lit(1)))
	case 10:
		e.Alts = append(e.Alts, api.Alt{Kind: number, Name: []string{"", "Nil"}[m.Intn(2)], N: m.Intn(2), Body: lit(1)})
	case 11:
		*e = []api.Expr{lit(number), v("x1"), v("nowhere"), get()}[m.Intn(4)]
	}
}

// P16.1: random programs that are spoilt.
func TestSpoilt(t *testing.T) {
	m := newMaker(7)
	counts := map[api.Errno]int{}
	for range 10000 {
		p := m.program(m.Intn(3), 2+m.Intn(3))
		for range 1 + m.Intn(2) {
			m.spoil(&p.Binds[m.Intn(len(p.Binds))].Expr)
		}
		switch m.Intn(60) {
		case 0:
			p.Cons[m.Intn(8)].Arity = m.Intn(4) - 1
		case 1:
			p.Cons[m.Intn(8)].Name = ""
		case 2:
			p.Binds[0].Name = "Main.other"
		}
		errno := wantLint(t, sayProgram(p), p)
		counts[errno]++
		for _, b := range p.Binds {
			stg.Straight(b.Expr, "x1")
		}
		if errno == api.OK && !equalSPrograms(made(t, p), refOf(p)) {
			t.Fatal(sayProgram(p))
		}
	}
	t.Log(counts)
	if len(counts) < 8 || counts[api.OK] < 500 {
		t.Error(counts)
	}
}

// Values of any Kinds, with all fields and none.
func TestWrong(t *testing.T) {
	wantLint(t, "zero", api.Program{})
	wantLint(t, "no names", api.Program{Cons: make([]api.Cons, 3), Binds: make([]api.Bind, 3)})
	if stg.Straight(api.Expr{}, "") || stg.Straight(api.Expr{}, "x") {
		t.Error("zero")
	}
	for kind := -1; kind < 12; kind++ {
		for _, subs := range [][]api.Expr{nil, {v("s")}, {v("x"), lit(1)}, {v("s"), v("s"), v("s")}, {{}, {Kind: -5}}} {
			e := api.Expr{Kind: kind, Subs: subs}
			wantEnd(t, say(e), e)
			wantLint(t, say(e), program(bind(api.Main, e)))
			e.Name, e.N, e.Op, e.Names = "x", -1, 99, []string{"", "x", "x"}
			wantEnd(t, say(e), e)
			e.Binds = []api.Bind{{}, bind("x", e), bind("", e)}
			wantEnd(t, say(e), e)
			e.Alts = []api.Alt{{}, {Kind: 7, Name: "x", N: 3, Names: []string{"x"}, Body: e}, other(e)}
			wantEnd(t, say(e), e)
			wantLint(t, say(e), program(mainOf(e), bind("y", e), bind("", e), bind("y", e)))
		}
	}
}

// R4: expressions may have 2^16 levels, beyond which calls end too.
func TestDeepStraight(t *testing.T) {
	for what, w := range ways() {
		for _, levels := range []int{900, 1<<16 - 10, 1<<17 + 10} {
			e, bound := v("x"), cas(lit(1), "x", other(v("x")))
			for range levels {
				e, bound = w.around(e), w.around(bound)
			}
			hold20(t, what, func() {
				is := stg.Straight(e, "x")
				if levels < 1<<16 && is != w.straight || stg.Straight(e, "z") || stg.Straight(bound, "x") {
					t.Errorf("%s, %d levels", what, levels)
				}
				if is := stg.Straight(add(v("x"), bound), "x"); levels < 1<<16 && !is {
					t.Errorf("beside %s, %d levels", what, levels)
				}
			})
			wantLint(t, what, program(mainOf(e)))
		}
	}
}

// Great expressions.
func TestGreatStraight(t *testing.T) {
	const count = 1 << 18
	y := slices.Repeat([]api.Expr{v("y")}, count)
	alts := cas(v("y"), "k")
	var binds []api.Bind
	for i := range count {
		alts.Alts = append(alts.Alts, litAlt(i, v("y")))
		binds = append(binds, bind(x(i), v("y")))
	}
	names := api.Expr{Kind: api.Lam, Names: xs(count), Subs: []api.Expr{v("x")}}
	for what, e := range map[string]api.Expr{"App": app(y...), "Con": con("Many", y...), "Case": alts, "Let": let(v("y"), binds...)} {
		for i, c := range map[string]api.Expr{"function": app(e, v("y")), "Prim": add(v("y"), e), "body": let1("k", v("y"), e)} {
			hold20(t, what, func() {
				if stg.Straight(c, "x") || stg.Straight(c, "y") || !stg.Straight(add(c, v("x")), "x") || !stg.Straight(add(v("x"), c), "x") || stg.Straight(app(c, v("x")), "x") {
					t.Error(what, i)
				}
			})
		}
	}
	alts.Alts[count/2].Body = v("x")
	hold20(t, "all", func() {
		if !stg.Straight(alts, "x") || !stg.Straight(let(v("x"), binds...), "x") || stg.Straight(names, "x") {
			t.Error("all")
		}
	})
	deep := v("x")
	for range 1<<16 - 100 {
		deep = add(app(y[:8]...), deep)
	}
	hold20(t, "deep", func() {
		if !stg.Straight(deep, "x") || stg.Straight(add(deep, v("x")), "x") {
			t.Error("deep")
		}
	})
}

// twice is ways to put an expression into another one in two places or more, which
// have room for one more name.
func twice() map[string]func(e, f api.Expr) api.Expr {
	w := v("w")
	return map[string]func(e, f api.Expr) api.Expr{
		"App":    func(e, f api.Expr) api.Expr { return app(f, e) },
		"Con":    func(e, f api.Expr) api.Expr { return pair(e, f) },
		"Prim":   func(e, f api.Expr) api.Expr { return add(e, f) },
		"Prim's": func(e, f api.Expr) api.Expr { return add(f, e) },
		"Let":    func(e, f api.Expr) api.Expr { return let1("w", e, f) },
		"Case":   func(e, f api.Expr) api.Expr { return cas(e, "w", other(f)) },
		"Alts":   func(e, f api.Expr) api.Expr { return cas(w, "w", litAlt(1, e), litAlt(2, f), other(e)) },
		"Lam":    func(e, f api.Expr) api.Expr { return app(lam("w", e), f) },
		"all":    func(e, f api.Expr) api.Expr { return let1("w", e, cas(add(e, e), "w", litAlt(1, add(e, f)), other(e))) },
	}
}

// Values that share memory: they are far greater than what they take.
func TestSharedStraight(t *testing.T) {
	for what, both := range twice() {
		for _, times := range []int{1, 2, 10, 30, 1 << 13} {
			e, y := v("x"), v("y")
			for range times {
				e, y = both(e, e), both(y, y)
			}
			hold20(t, what, func() {
				if stg.Straight(e, "x") || stg.Straight(y, "x") || stg.Straight(add(e, v("x")), "x") || !stg.Straight(add(y, v("x")), "x") || !stg.Straight(add(v("x"), y), "x") {
					t.Error(what, times)
				}
				if !stg.Straight(app(v("x"), y), "x") || stg.Straight(app(y, v("x")), "x") || stg.Straight(pair(y, v("x")), "x") {
					t.Error(what, times)
				}
				bound := let1("x", e, e)
				if stg.Straight(bound, "x") || !stg.Straight(add(bound, v("x")), "x") || stg.Straight(add(cas(y, "x", other(e)), add(e, v("x"))), "x") {
					t.Error(what, times)
				}
			})
			if times == 30 {
				wantEnd(t, what, e)
				wantEnd(t, what, y)
			}
		}
	}
	// one way through what is shared on all others
	y, e := v("y"), v("x")
	for i := range 1 << 14 {
		y = add(y, y)
		if e = add(y, e); i%2 == 0 {
			e = let1("k", y, cas(e, "k", litAlt(1, y), other(y)))
		}
	}
	hold20(t, "one way", func() {
		if !stg.Straight(e, "x") || stg.Straight(app(y, e), "x") {
			t.Error("one way")
		}
	})
	// so that what was looked at on a low level is on a high one as well
	last := v("y")
	all := lit(1)
	for range 60 {
		for range 1 << 12 {
			last = app(last, lit(1))
		}
		all = add(all, app(v("s"), last))
		last = add(last, lit(1))
	}
	for range 1 << 9 {
		all = add(all, all)
	}
	wantEnd(t, "levels", add(all, add(last, v("x"))))
}

// Values that are parts of themselves.
func TestEndless(t *testing.T) {
	for what, w := range ways() {
		e := w.around(v("x"))
		for i := range e.Subs {
			e.Subs[i] = e
		}
		for i := range e.Binds {
			e.Binds[i].Expr = e
		}
		for i := range e.Alts {
			e.Alts[i].Body = e
		}
		wantEnd(t, what, e)
		wantLint(t, what, program(mainOf(lit(1)), bind("M.a", app(v(api.Main), e))))
		// one that is bound ahead of the rest
		wantEnd(t, what, app(let(e, bind("x", e)), v("x")))
		wantEnd(t, what, cas(add(v("x"), v("w")), "x", other(e)))
	}
	wide := app(slices.Repeat([]api.Expr{v("s")}, 1<<12)...)
	for i := range wide.Subs[1:] {
		wide.Subs[1+i] = wide
	}
	wantEnd(t, "wide", wide)
}

// wantCoreEnd holds that Core ends for a program, soon, and whether it answers the
// zero program.
func wantCoreEnd(t *testing.T, what string, q api.SProgram) bool {
	t.Helper()
	zero := false
	hold20(t, what, func() {
		p := stg.Core(q)
		zero = p.Cons == nil && p.Binds == nil
	})
	return zero
}

// parts is ways to put an expression of STG into another one.
func parts() map[string]func(e api.Stg) api.Stg {
	one := sAtom("1")
	return map[string]func(e api.Stg) api.Stg{
		"scrutinee": func(e api.Stg) api.Stg { return sCase(e, "w", sOther(one)) },
		"Alt":       func(e api.Stg) api.Stg { return sCase(one, "w", sAlt(api.ConAlt, "Pair", 0, "p q", e)) },
		"last Alt":  func(e api.Stg) api.Stg { return sCase(one, "w", sAlt(api.LitAlt, "", 1, "", one), sOther(e)) },
		"body":      func(e api.Stg) api.Stg { return rec([]api.SBind{cell("w", "Nil", "")}, e) },
		"function":  func(e api.Stg) api.Stg { return rec([]api.SBind{fun("w", "p q", e)}, one) },
		"no names":  func(e api.Stg) api.Stg { return rec([]api.SBind{fun("w", "", e)}, one) },
		"thunk":     func(e api.Stg) api.Stg { return rec([]api.SBind{cell("w", "Nil", ""), thunk("v", e)}, one) },
	}
}

// coreWays is the same for what Core makes.
func coreWays() map[string]func(e api.Expr) api.Expr {
	one, none := lit(1), con("Nil")
	return map[string]func(e api.Expr) api.Expr{
		"scrutinee": func(e api.Expr) api.Expr { return cas(e, "w", other(one)) },
		"Alt":       func(e api.Expr) api.Expr { return cas(one, "w", conAlt("Pair", "p q", e)) },
		"last Alt":  func(e api.Expr) api.Expr { return cas(one, "w", litAlt(1, one), other(e)) },
		"body":      func(e api.Expr) api.Expr { return let1("w", none, e) },
		"function":  func(e api.Expr) api.Expr { return let1("w", lam("p q", e), one) },
		"no names":  func(e api.Expr) api.Expr { return let1("w", e, one) },
		"thunk":     func(e api.Expr) api.Expr { return let(one, bind("w", none), bind("v", e)) },
	}
}

// R4: P16.2 for 2^16 levels, beyond which Core ends too.
func TestDeepCore(t *testing.T) {
	for what, around := range parts() {
		wantAround := coreWays()[what]
		for _, levels := range []int{1, 900, 1<<16 - 10, 1<<17 + 10} {
			e, want := sCall("f", "x 2"), app(v("f"), v("x"), lit(2))
			for range levels {
				e, want = around(e), wantAround(want)
			}
			for _, b := range []api.SBind{thunk("x", e), fun("x", "p", e)} {
				q := api.SProgram{Cons: cons(), Binds: []api.SBind{cell("y", "Nil", ""), b}}
				if zero := wantCoreEnd(t, what, q); levels > 1<<16 {
					continue
				} else if p := stg.Core(q); zero || !equalPrograms(p, program(bind("y", con("Nil")), bind("x", map[int]api.Expr{api.SThunk: want, api.SFun: lam("p", want)}[b.Kind]))) {
					t.Errorf("%s: another program of %d levels", what, levels)
				}
			}
		}
	}
}

// P16.2: great values.
func TestGreatCore(t *testing.T) {
	const count = 1 << 17
	text := strings.Repeat("x 3 ", count)
	alts := sCase(sAtom("x"), "k")
	var binds []api.SBind
	for i := range count {
		alts.Alts = append(alts.Alts, sAlt(api.LitAlt, "", i, "", sAtom("x")))
		binds = append(binds, cell(x(i), "Pair", "x 2"), thunk("y"+x(i), sAtom("x")))
	}
	wide := fun("x", "", sAtom("x"))
	wide.Params, wide.Free = xs(count), xs(count)
	for what, q := range map[string]api.SProgram{
		"call":         {Binds: []api.SBind{thunk("x", sCall("f", text))}},
		"cell":         {Binds: []api.SBind{cell("x", "A", text)}},
		"alternatives": {Binds: []api.SBind{thunk("x", alts)}},
		"binds":        {Binds: []api.SBind{thunk("x", rec(binds, alts))}},
		"top":          {Binds: binds, Cons: slices.Repeat(cons(), count/4)},
		"names":        {Binds: []api.SBind{wide}},
	} {
		hold20(t, what, func() {
			if p := stg.Core(q); !equalPrograms(p, refCore(q)) {
				t.Errorf("%s: another program of %d Binds", what, len(p.Binds))
			}
		})
	}
}

// Values that share memory: Core ends also if what becomes of them would be too
// great.
func TestSharedCore(t *testing.T) {
	for what, both := range map[string]func(e api.Stg) api.Stg{
		"Alts":  func(e api.Stg) api.Stg { return sCase(sAtom("1"), "k", sOther(e), sOther(e)) },
		"Case":  func(e api.Stg) api.Stg { return sCase(e, "k", sOther(e)) },
		"binds": func(e api.Stg) api.Stg { return rec([]api.SBind{thunk("x", e), fun("y", "p", e)}, sAtom("1")) },
		"body":  func(e api.Stg) api.Stg { return rec([]api.SBind{thunk("x", e)}, e) },
	} {
		for _, times := range []int{1, 10, 16, 30, 63, 64, 1 << 18} {
			e := sCall("f", "x 1")
			for range times {
				e = both(e)
			}
			q := api.SProgram{Binds: []api.SBind{thunk("x", e)}}
			if zero := wantCoreEnd(t, what, q); zero != (times > 16) {
				t.Error(what, times)
			} else if !zero && !equalPrograms(stg.Core(q), refCore(q)) {
				t.Errorf("%s: another program, %d times", what, times)
			}
		}
	}
	// long lists that stand in many places
	long := sCall("f", strings.Repeat("x ", 1<<12))
	names := fun("x", "", sAtom("1"))
	names.Params = xs(1 << 16)
	alts := sCase(sAtom("1"), "k")
	for range 1 << 14 {
		alts.Alts = append(alts.Alts, api.SAlt{Kind: api.ConAlt, Names: names.Params, Body: sAtom("1")})
	}
	all := sCase(sAtom("1"), "k", slices.Repeat([]api.SAlt{sOther(long)}, 1<<14)...)
	few := sCase(sAtom("1"), "k", slices.Repeat([]api.SAlt{sOther(long)}, 1<<7)...)
	for what, c := range map[string]struct {
		q    api.SProgram
		zero bool
	}{
		"arguments":     {api.SProgram{Binds: []api.SBind{thunk("x", all)}}, true},
		"few arguments": {api.SProgram{Binds: []api.SBind{thunk("x", few)}}, false},
		"names":         {api.SProgram{Binds: slices.Repeat([]api.SBind{names}, 1<<12)}, true},
		"few names":     {api.SProgram{Binds: slices.Repeat([]api.SBind{names}, 1<<4)}, false},
		"fields":        {api.SProgram{Binds: slices.Repeat([]api.SBind{{Kind: api.SCell, Args: long.Args}}, 1<<13)}, true},
		"alternatives":  {api.SProgram{Binds: []api.SBind{thunk("x", alts)}}, true},
		"Rec":           {api.SProgram{Binds: []api.SBind{thunk("x", rec(slices.Repeat([]api.SBind{thunk("x", few)}, 1<<7), all))}}, true},
	} {
		if zero := wantCoreEnd(t, what, c.q); zero != c.zero {
			t.Error(what, zero)
		} else if !zero && !equalPrograms(stg.Core(c.q), refCore(c.q)) {
			t.Error(what)
		}
	}
}

// Values of STG that are parts of themselves, and ones that have what does not
// belong to them.
func TestEndlessCore(t *testing.T) {
	for what, around := range parts() {
		e := around(sAtom("x"))
		for i := range e.Subs {
			e.Subs[i] = e
		}
		for i := range e.Binds {
			e.Binds[i].Body = []api.Stg{e}
			e.Binds[i].Body[0].Binds = e.Binds
		}
		for i := range e.Alts {
			e.Alts[i].Body = e
		}
		for _, b := range []api.SBind{thunk("x", e), fun("x", "p", e), thunk("x", sCase(e, "k", sOther(e)))} {
			if !wantCoreEnd(t, what, api.SProgram{Cons: cons(), Binds: []api.SBind{b, b}}) {
				t.Error(what)
			}
		}
		// what is not looked at does not matter
		unused := api.SBind{Name: "x", Kind: api.SCell, Con: "Nil", Body: []api.Stg{e}}
		if p := stg.Core(api.SProgram{Binds: []api.SBind{unused, {Kind: 9, Body: []api.Stg{e}}}}); sayProgram(p) != "x = (!Nil);  = 0" {
			t.Error(what, sayProgram(p))
		}
		e.Kind = 8
		if p := stg.Core(api.SProgram{Binds: []api.SBind{thunk("x", e)}}); sayProgram(p) != "x = 0" {
			t.Error(what, sayProgram(p))
		}
		for kind := -1; kind < 9; kind++ {
			e.Kind = kind
			wantCoreEnd(t, what, api.SProgram{Binds: []api.SBind{thunk("x", e, e), {Kind: kind, Body: []api.Stg{e, e}}}})
		}
	}
}
