package demand_test

import (
	"math"
	"slices"
	"strings"
	"testing"
	"time"

	"teasel/api"
	"teasel/core"
	"teasel/demand"
)

// hold20 holds that something ends within some time.
func hold20(t *testing.T, what string, do func()) {
	t.Helper()
	start := time.Now()
	do()
	if took := time.Since(start); took > 20*time.Second {
		t.Errorf("%s took %v", what, took)
	}
}

// wantLint holds that a program that Lint refuses is refused with its error, that
// others are accepted, and that neither takes long.
func wantLint(t *testing.T, what string, p api.Program) api.Errno {
	t.Helper()
	want := core.Lint(p)
	hold20(t, what, func() {
		q, errno := demand.Run(p)
		if errno != want || isZero(q) != (want != api.OK) || want == api.OK && core.Lint(q) != api.OK {
			t.Errorf("%s: Run: %v, want %v", what, errno, want)
		}
		orders, errno := demand.Orders(p)
		if errno != want || len(orders) > len(p.Binds) || want != api.OK && len(orders) > 0 {
			t.Errorf("%s: Orders: %v, want %v", what, errno, want)
		}
	})
	return want
}

// wantEnd holds that First ends for an expression, by any orders, and that Orders
// and Run do so for a program that has it.
func wantEnd(t *testing.T, what string, e api.Expr) {
	t.Helper()
	hold20(t, what, func() {
		demand.First(e)
		demand.First(e, order("f", 0), order("x", 1, 0), order("", -5, -1, 0))
		demand.First(e, order("f", 2, 1, 0, 1, 5), order("f", 1), order("x", math.MinInt, math.MaxInt, 0, math.MinInt))
		demand.First(app(v("f"), e, e), order("f", 2, 1, 0))
	})
	wantLint(t, what, program(boxed(e)))
	wantLint(t, what, program(bind("M.f", lam("x y", e)), boxed(app(v("M.f"), e, e))))
}

// spoil changes something somewhere in an expression.
func (m *maker) spoil(e *api.Expr) {
	if len(e.Subs) > 0 && m.Intn(3) > 0 {
		m.spoil(&e.Subs[m.Intn(len(e.Subs))])
		return
	}
	if len(e.Binds) > 0 && m.Intn(3) > 0 {
		m.spoil(&e.Binds[m.Intn(len(e.Binds))].Expr)
		return
	}
	if len(e.Alts) > 0 && m.Intn(3) > 0 {
		m.spoil(&e.Alts[m.Intn(len(e.Alts))].Body)
		return
	}
	number := []int{-1, 0, 1, 2, 3, 4, 5, 6, 7, 8, 9, 11, 12, math.MaxInt, math.MinInt}[m.Intn(15)]
	switch m.Intn(12) {
	case 0, 1, 2:
		e.Kind = number
	case 3:
		e.N = number
	case 4:
		e.Op = number
	case 5:
		e.Name = []string{"", "x1", "x2", "Nil", "Pair"}[m.Intn(5)]
	case 6:
		e.Names = append(e.Names, []string{"", "x1", "x2", "new"}[m.Intn(4)])
	case 7:
		e.Subs = append(e.Subs, lit(number))
	case 8:
		e.Subs = e.Subs[:len(e.Subs)/2]
	case 9:
		e.Binds = append(e.Binds, bind([]string{"", "x1", "new"}[m.Intn(3)], lit(1)))
	case 10:
		e.Alts = append(e.Alts, api.Alt{Kind: number, Name: []string{"", "Nil"}[m.Intn(2)], N: m.Intn(2), Body: lit(1)})
	case 11:
		e.Alts = e.Alts[:len(e.Alts)/2]
	}
}

// Values that are nearly right programs.
func TestSpoilt(t *testing.T) {
	m := newMaker(7)
	counts := map[api.Errno]int{}
	for range 10000 {
		p := m.program(m.Intn(3), 2+m.Intn(4))
		for range 1 + m.Intn(2) {
			m.spoil(&p.Binds[m.Intn(len(p.Binds))].Expr)
		}
		switch m.Intn(60) {
		case 0:
			p.Cons[m.Intn(7)].Arity = m.Intn(4) - 1
		case 1:
			p.Cons[m.Intn(7)].Name = ""
		case 2:
			p.Binds[0].Name = "Main.other"
		}
		errno := wantLint(t, sayProgram(p), p)
		counts[errno]++
		for _, b := range p.Binds {
			demand.First(b.Expr, m.anyOrders()...)
		}
		if errno == api.OK {
			if got, want := changed(t, p), refRun(p, map[string]int{}); !equalPrograms(got, want) {
				t.Fatalf("%s:\ngot  %s\nwant %s", sayProgram(p), sayProgram(got), sayProgram(want))
			}
		}
	}
	t.Log(counts)
	if len(counts) < 8 || counts[api.OK] < 500 {
		t.Error(counts)
	}
}

// Values of any Kinds, with all fields and none.
func TestWrong(t *testing.T) {
	wantLint(t, "zero", api.Program{})
	wantLint(t, "no names", api.Program{Cons: make([]api.Cons, 3), Binds: make([]api.Bind, 3)})
	if names := demand.First(api.Expr{}, api.Order{}, api.Order{}); len(names) != 0 {
		t.Error(names)
	}
	for kind := -1; kind < 12; kind++ {
		for _, subs := range [][]api.Expr{nil, {v("f")}, {v("x"), lit(1)}, {v("f"), v("f"), v("f")}, {{}, {Kind: -5}}} {
			e := api.Expr{Kind: kind, Subs: subs}
			wantEnd(t, say(e), e)
			wantLint(t, say(e), program(bind(api.Main, e)))
			e.Name, e.N, e.Op, e.Names = "x", -1, 99, []string{"", "x", "x"}
			wantEnd(t, say(e), e)
			e.Binds = []api.Bind{{}, bind("x", e), bind("", e)}
			wantEnd(t, say(e), e)
			e.Alts = []api.Alt{{}, {Kind: 7, Name: "x", N: 3, Names: []string{"x"}, Body: e}, other(e)}
			wantEnd(t, say(e), e)
			wantLint(t, say(e), program(boxed(e), bind("y", e), bind("", e), bind("y", e)))
		}
	}
}

// chains is ways to put an expression into another one that has one more level.
func chains() map[string]func(e api.Expr) api.Expr {
	one := lit(1)
	return map[string]func(e api.Expr) api.Expr{
		"Lam":       func(e api.Expr) api.Expr { return lam("w", e) },
		"App":       func(e api.Expr) api.Expr { return app(e, one) },
		"argument":  func(e api.Expr) api.Expr { return app(v("f"), e) },
		"Let":       func(e api.Expr) api.Expr { return let1("w", one, e) },
		"Bind":      func(e api.Expr) api.Expr { return let1("w", e, one) },
		"scrutinee": func(e api.Expr) api.Expr { return cas(e, "w", other(one)) },
		"Alt":       func(e api.Expr) api.Expr { return cas(one, "w", other(e)) },
		"Alt names": func(e api.Expr) api.Expr { return cas(one, "w", conAlt("Pair", "w z", e)) },
		"Alts":      func(e api.Expr) api.Expr { return cas(one, "w", litAlt(1, e), other(v("x"))) },
		"last Alt":  func(e api.Expr) api.Expr { return cas(one, "w", litAlt(1, v("x")), other(e)) },
		"Con":       func(e api.Expr) api.Expr { return con(api.Box, e) },
		"Put":       func(e api.Expr) api.Expr { return prim(api.Put, e) },
		"Prim":      func(e api.Expr) api.Expr { return add(e, one) },
		"Prim's":    func(e api.Expr) api.Expr { return add(one, e) },
	}
}

// R4: expressions may have 2^16 levels, beyond which calls end too.
func TestDeep(t *testing.T) {
	for what, around := range chains() {
		for _, levels := range []int{996, 997, 998, 1 << 14, 1<<16 - 10, 1 << 18} {
			e := v("x")
			for range levels {
				e = around(e)
			}
			hold20(t, what, func() {
				got := strings.Join(demand.First(e, order("f", 1, 0)), " ")
				want := "x"
				switch what {
				case "Lam", "Con", "Bind":
					want = ""
				}
				if levels < 1<<16 && got != want {
					t.Errorf("%s, %d levels: %q", what, levels, got)
				}
			})
			if levels > 1000 {
				wantLint(t, what, program(boxed(e)))
			}
		}
		wantEnd(t, what, nested(1<<18, v("x"), func(i int, e api.Expr) api.Expr { return around(e) }))
	}
}

// Values that share memory: they are far greater than what they take.
func TestShared(t *testing.T) {
	f, w, sum := v("f"), v("w"), add(v("x"), v("y"))
	for what, c := range map[string]struct {
		twice func(e api.Expr) api.Expr
		want  string
	}{
		"App":        {func(e api.Expr) api.Expr { return app(e, e) }, "x y"},
		"call":       {func(e api.Expr) api.Expr { return app(f, e, e) }, "x y"},
		"Con":        {func(e api.Expr) api.Expr { return pair(e, e) }, ""},
		"Prim":       {func(e api.Expr) api.Expr { return add(e, e) }, "x y"},
		"Quot":       {func(e api.Expr) api.Expr { return prim(api.Quot, e, e) }, "x y"},
		"Let":        {func(e api.Expr) api.Expr { return let1("w", e, e) }, "x y"},
		"bound":      {func(e api.Expr) api.Expr { return let1("y", e, e) }, "x"},
		"Case":       {func(e api.Expr) api.Expr { return cas(e, "w", other(e)) }, "x y"},
		"Alts":       {func(e api.Expr) api.Expr { return cas(w, "w", litAlt(1, e), litAlt(2, e), other(e)) }, "w x y"},
		"Alts bound": {func(e api.Expr) api.Expr { return cas(w, "w", conAlt("A", "y", e), litAlt(2, e), other(e)) }, "w x"},
		"behind Alt": {func(e api.Expr) api.Expr { return cas(w, "w", litAlt(1, add(w, e)), litAlt(2, e), other(add(w, e))) }, "w x y"},
		"Lam":        {func(e api.Expr) api.Expr { return app(lam("w", e), e) }, ""},
		"all":        {func(e api.Expr) api.Expr { return let1("w", e, cas(add(e, e), "w", litAlt(1, add(e, e)), other(e))) }, "x y"},
	} {
		for _, times := range []int{1, 2, 10, 30, 1 << 15} {
			e := sum
			for range times {
				e = c.twice(e)
			}
			hold20(t, what, func() {
				if got := strings.Join(demand.First(e, order("f", 1, 0, 1, 0)), " "); got != c.want {
					t.Errorf("%s, %d times: %q", what, times, got)
				}
			})
			if times == 30 {
				wantEnd(t, what, e)
			}
		}
	}
	// the same, with names that are bound around one place of it
	e := sum
	for range 60 {
		e = add(e, e)
	}
	wantFirst(t, "bound", add(e, let1("y", lit(1), cas(e, "k", other(v("z"))))), strings.Fields("x y"))
	wantFirst(t, "bound", add(e, let1("q", lit(1), cas(e, "k", other(v("z"))))), strings.Fields("x y z"))
	wantFirst(t, "bound", cas(e, "k", conAlt("Pair", "a b", cas(e, "j", other(add(e, v("z")))))), strings.Fields("x y z"))
	wantFirst(t, "bound", cas(e, "k", litAlt(1, cas(e, "x", other(add(e, v("z"))))), other(let1("y", e, add(e, v("z"))))), strings.Fields("x y"))
	wantFirst(t, "bound", cas(v("q"), "k", litAlt(1, cas(e, "x", other(add(e, v("z"))))), other(let1("y", e, add(e, v("z"))))), strings.Fields("q x"))
}

// Great values that share memory in such a way that nothing is told for them.
func TestSharedLists(t *testing.T) {
	e := sumOf(xs(1 << 12))
	for i := range 1 << 16 {
		e = cas(lit(1), "k", litAlt(1, e), litAlt(i, e))
	}
	wantFirst(t, "Cases", e, nil)
	e = sumOf(xs(1 << 12))
	for range 60 {
		e = add(e, e)
	}
	all := cas(e, "k")
	for i := range 1 << 16 {
		all.Alts = append(all.Alts, litAlt(i, cas(e, "j", litAlt(1, v("z")), other(v("z")))))
	}
	wantFirst(t, "alternatives", all, nil)
}

// Values that are parts of themselves.
func TestEndless(t *testing.T) {
	for what, around := range chains() {
		e := around(v("x"))
		for i := range e.Subs {
			e.Subs[i] = e
		}
		for i := range e.Binds {
			e.Binds[i].Expr = e
		}
		for i := range e.Alts {
			e.Alts[i].Body = e
		}
		wantEnd(t, what, e)
		wantLint(t, what, program(boxed(lit(1)), bind("M.a", app(v(api.Main), e))))
	}
	wide := app(slices.Repeat([]api.Expr{v("f")}, 1<<12)...)
	for i := range wide.Subs[1:] {
		wide.Subs[1+i] = wide
	}
	wantEnd(t, "wide", wide)
}
