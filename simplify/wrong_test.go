package simplify_test

import (
	"math"
	"slices"
	"testing"
	"time"

	"teasel/api"
	"teasel/core"
	"teasel/simplify"
)

// wantLint holds that a program that Lint refuses is refused with its error, that
// others are accepted, and that neither takes long.
func wantLint(t *testing.T, what string, p api.Program) api.Errno {
	t.Helper()
	start := time.Now()
	want := core.Lint(p)
	q, errno := simplify.Pass(p)
	if errno != want || isZero(q) != (want != api.OK) || want == api.OK && core.Lint(q) != api.OK {
		t.Errorf("%s: Pass: %v, want %v", what, errno, want)
	}
	for _, passes := range []int{-1, 0, 1, 20, 21} {
		if want == api.OK && (passes < 0 || passes > 20) {
			want = api.ErrArg
		}
		if q, errno := simplify.Run(p, passes); errno != want || isZero(q) != (want != api.OK) {
			t.Errorf("%s, %d passes: %v, want %v", what, passes, errno, want)
		}
		if want == api.ErrArg {
			want = api.OK
		}
	}
	if took := time.Since(start); took > 20*time.Second {
		t.Errorf("%s took %v", what, took)
	}
	return want
}

// spoil changes something somewhere in an expression.
func (m *maker) spoil(e *api.Expr) {
	if len(e.Subs) > 0 && m.Intn(3) > 0 {
		m.spoil(&e.Subs[m.Intn(len(e.Subs))])
		return
	}
	if len(e.Binds) > 0 && m.Intn(3) > 0 {
		m.spoil(&e.Binds[m.Intn(len(e.Binds))].Expr)
		return
	}
	if len(e.Alts) > 0 && m.Intn(3) > 0 {
		m.spoil(&e.Alts[m.Intn(len(e.Alts))].Body)
		return
	}
	number := []int{-1, 0, 1, 2, 3, 4, 5, 6, 7, 8, 9, 11, 12, math.MaxInt, math.MinInt}[m.Intn(15)]
	switch m.Intn(12) {
	case 0, 1, 2:
		e.Kind = number
	case 3:
		e.N = number
	case 4:
		e.Op = number
	case 5:
		e.Name = []string{"", "x1", "x2", "Nil", "Pair"}[m.Intn(5)]
	case 6:
		e.Names = append(e.Names, []string{"", "x1", "x2", "new"}[m.Intn(4)])
	case 7:
		e.Subs = append(e.Subs, lit(number))
	case 8:
		e.Subs = e.Subs[:len(e.Subs)/2]
	case 9:
		e.Binds = append(e.Binds, bind([]string{"", "x1", "new"}[m.Intn(3)], lit(1)))
	case 10:
		e.Alts = append(e.Alts, api.Alt{Kind: number, Name: []string{"", "Nil"}[m.Intn(2)], N: m.Intn(2), Body: lit(1)})
	case 11:
		e.Alts = e.Alts[:len(e.Alts)/2]
	}
}

// Values that are nearly right programs.
func TestSpoilt(t *testing.T) {
	m := newMaker(3)
	counts := map[api.Errno]int{}
	for range 20000 {
		p := m.program(m.Intn(3), 2+m.Intn(4))
		for range 1 + m.Intn(2) {
			m.spoil(&p.Binds[m.Intn(len(p.Binds))].Expr)
		}
		switch m.Intn(60) {
		case 0:
			p.Cons[m.Intn(7)].Arity = m.Intn(4) - 1
		case 1:
			p.Cons[m.Intn(7)].Name = ""
		case 2:
			p.Binds[0].Name = "Main.other"
		}
		errno := wantLint(t, sayProgram(p), p)
		if counts[errno]++; errno == api.OK {
			if got, want := pass(t, p), refPass(p, map[string]int{}); !equalPrograms(got, want) {
				t.Fatalf("%s:\ngot  %s\nwant %s", sayProgram(p), sayProgram(got), sayProgram(want))
			}
		}
	}
	t.Log(counts)
	if len(counts) < 8 || counts[api.OK] < 1000 {
		t.Error(counts)
	}
}

// Values of any Kinds, with all fields and none.
func TestWrong(t *testing.T) {
	wantLint(t, "zero", api.Program{})
	wantLint(t, "no names", api.Program{Cons: make([]api.Cons, 3), Binds: make([]api.Bind, 3)})
	s := v("s")
	for kind := -1; kind < 12; kind++ {
		for _, subs := range [][]api.Expr{nil, {s}, {s, lit(1)}, {s, s, s}, {{}, {Kind: -5}}} {
			e := api.Expr{Kind: kind, Subs: subs}
			wantLint(t, say(e), program(boxed(e)))
			wantLint(t, say(e), program(bind(api.Main, e)))
			e.Name, e.N, e.Op, e.Names = "x", -1, 99, []string{"", "x", "x"}
			wantLint(t, say(e), program(boxed(e)))
			e.Binds = []api.Bind{{}, bind("x", e), bind("", e)}
			wantLint(t, say(e), program(boxed(e)))
			e.Alts = []api.Alt{{}, {Kind: 7, Name: "x", N: 3, Names: []string{"x"}, Body: e}, other(e)}
			wantLint(t, say(e), program(boxed(e), bind("y", e), bind("", e), bind("y", e)))
		}
	}
}

// Values that share memory: some are far greater than what they take, some are not.
func TestShared(t *testing.T) {
	around := map[string]func(e api.Expr) api.Expr{
		"App":  func(e api.Expr) api.Expr { return app(e, e) },
		"Con":  func(e api.Expr) api.Expr { return pair(e, e) },
		"Prim": func(e api.Expr) api.Expr { return add(e, e) },
		"Let":  func(e api.Expr) api.Expr { return let1("x", e, e) },
		"Case": func(e api.Expr) api.Expr { return cas(e, "x", other(e)) },
		"Alts": func(e api.Expr) api.Expr { return cas(v("s"), "x", litAlt(1, e), litAlt(2, e), other(e)) },
		"Lam":  func(e api.Expr) api.Expr { return app(lam("x", e), e) },
	}
	for what, twice := range around {
		for _, times := range []int{2, 10, 14, 40, 900, 2000} {
			e := lit(1)
			for range times {
				e = twice(e)
			}
			wantLint(t, what, program(boxed(e)))
			wantLint(t, what, program(boxed(lit(1)), bind("M.a", e), bind("M.b", e)))
		}
	}
	// what is there in several places, and binds nothing, is as if it were copied
	shared := app(v("f"), add(lit(1), lit(2)), pair(v("s"), lit(1)))
	list := []api.Expr{shared, shared, app(v("f"), add(lit(1), lit(2)), pair(v("s"), lit(1)))}
	to := app(v("f"), lit(3), pair(v("s"), lit(1)))
	inner := app(slices.Concat([]api.Expr{v("f")}, list)...)
	wantPass(t, app(slices.Concat([]api.Expr{inner}, list)...), app(v("f"), to, to, to, to, to, to))
}

// Values that are parts of themselves.
func TestEndless(t *testing.T) {
	one := lit(1)
	for _, e := range []api.Expr{lam("x", one), app(one, one), let1("x", one, one), cas(one, "x", litAlt(1, one), other(one)), pair(one, one), add(one, one)} {
		for i := range e.Subs {
			e.Subs[i] = e
		}
		for i := range e.Binds {
			e.Binds[i].Expr = e
		}
		for i := range e.Alts {
			e.Alts[i].Body = e
		}
		wantLint(t, "endless", program(boxed(e)))
		wantLint(t, "endless", program(boxed(one), bind("M.a", app(v(api.Main), e))))
	}
	wide := app(slices.Repeat([]api.Expr{one}, 1<<12)...)
	for i := range wide.Subs {
		wide.Subs[i] = wide
	}
	wantLint(t, "endless", program(boxed(wide)))
}

// Beyond the document's bounds calls end too.
func TestDeeper(t *testing.T) {
	for _, levels := range []int{997, 998, 999, 1 << 14, 1 << 16, 1 << 18} {
		e := lit(1)
		for range levels {
			e = prim(api.Put, e)
		}
		if errno := wantLint(t, "deep", program(boxed(e))); (errno == api.OK) != (levels <= 997) {
			t.Error(levels, errno)
		}
	}
}
