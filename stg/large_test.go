package stg_test

import (
	"slices"
	"strconv"
	"strings"
	"testing"
	"time"

	"teasel/api"
	"teasel/core"
	"teasel/stg"
)

// x is one of many names.
func x(i int) string { return "x" + strconv.Itoa(i) }

// xs is many names.
func xs(count int) []string {
	names := make([]string, count)
	for i := range names {
		names[i] = x(i)
	}
	return names
}

// nested is an expression with others around it, the first one outermost.
func nested(times int, inner api.Expr, around func(i int, e api.Expr) api.Expr) api.Expr {
	for i := times - 1; i >= 0; i-- {
		inner = around(i, inner)
	}
	return inner
}

// hold20 holds that something ends within some time.
func hold20(t *testing.T, what string, do func()) {
	t.Helper()
	start := time.Now()
	do()
	if took := time.Since(start); took > 20*time.Second {
		t.Errorf("%s took %v", what, took)
	}
}

// great is what Of makes of a great program, which must not take long; it holds what
// Core makes of that.
func great(t *testing.T, what string, p api.Program) api.SProgram {
	t.Helper()
	if errno := core.Lint(p); errno != api.OK {
		t.Fatalf("%s: Lint: %v", what, errno)
	}
	var q api.SProgram
	var back api.Program
	hold20(t, what, func() {
		q, _ = stg.Of(p)
		back = stg.Core(q)
	})
	if len(back.Binds) < len(p.Binds) || !equalPrograms(back, refCore(q)) {
		t.Errorf("%s: another program from Core", what)
	}
	return q
}

// wantGreat holds what becomes of a great program, without messages that would be
// too long.
func wantGreat(t *testing.T, what string, p api.Program) {
	t.Helper()
	if !equalSPrograms(great(t, what, p), refOf(p)) {
		t.Errorf("%s: another program", what)
	}
}

const most = 990 // levels below those of main

// each is ways to put an expression into another one, in which s and names of i are
// bound.
func each() map[string]func(i int, e api.Expr) api.Expr {
	s := v("s")
	return map[string]func(i int, e api.Expr) api.Expr{
		"Lam":       func(i int, e api.Expr) api.Expr { return lam(x(i), e) },
		"App":       func(i int, e api.Expr) api.Expr { return app(e, s) },
		"argument":  func(i int, e api.Expr) api.Expr { return app(s, e) },
		"arguments": func(i int, e api.Expr) api.Expr { return app(s, box(s), e, get()) },
		"body":      func(i int, e api.Expr) api.Expr { return let1(x(i), get(), e) },
		"Bind":      func(i int, e api.Expr) api.Expr { return let1(x(i), e, add(v(x(i)), s)) },
		"Binds":     func(i int, e api.Expr) api.Expr { return let(v(x(i)), bind(x(i), e), bind("y"+x(i), s)) },
		"recursive": func(i int, e api.Expr) api.Expr { return let1(x(i), app(v(x(i)), e), v(x(i))) },
		"scrutinee": func(i int, e api.Expr) api.Expr { return cas(e, x(i), other(v(x(i)))) },
		"Alt":       func(i int, e api.Expr) api.Expr { return cas(s, x(i), litAlt(i, lit(1)), other(e)) },
		"ConAlt":    func(i int, e api.Expr) api.Expr { return cas(s, x(i), conAlt("Pair", "y"+x(i)+" z"+x(i), e)) },
		"Con":       func(i int, e api.Expr) api.Expr { return box(e) },
		"fields":    func(i int, e api.Expr) api.Expr { return pair(get(), e) },
		"Prim":      func(i int, e api.Expr) api.Expr { return add(e, s) },
		"Prim's":    func(i int, e api.Expr) api.Expr { return add(s, e) },
	}
}

// P16.1, P16.2: each way to put an expression into another one, as deep as may be.
func TestDeepPrograms(t *testing.T) {
	for what, around := range each() {
		levels := most
		if what == "recursive" { // two for each
			levels /= 2
		}
		e := nested(levels, app(v("s"), get()), around)
		wantGreat(t, what, program(bind(api.Main, lam("s", e))))
		wantGreat(t, what, program(bind(api.Main, lam("s", app(v("s"), e)))))
		wantGreat(t, what, program(bind(api.Main, lit(1)), bind("s", e)))
	}
	// all of the ways, in turn
	var all []func(i int, e api.Expr) api.Expr
	var names []string
	for name := range each() {
		names = append(names, name)
	}
	slices.Sort(names)
	for _, name := range names {
		all = append(all, each()[name])
	}
	for step := range 8 {
		e := nested(most*9/10, v("s"), func(i int, e api.Expr) api.Expr { return all[i*(step+1)%len(all)](i, e) })
		wantGreat(t, "all", program(bind(api.Main, lam("s", e))))
	}
}

// P16.1: as many levels and as many nodes as may be, and one more.
func TestLimits(t *testing.T) {
	boxes := func(times int) api.Program {
		return program(bind(api.Main, nested(times, lit(1), func(_ int, e api.Expr) api.Expr { return box(e) })))
	}
	wantGreat(t, "levels", boxes(api.MaxDepth-1))
	if q, errno := stg.Of(boxes(api.MaxDepth)); errno != api.ErrDeep || !isZero(q) {
		t.Error(errno)
	}
	units := func(count int) api.Program {
		e := app(v("s"))
		for range count - 3 {
			e.Subs = append(e.Subs, con(api.Unit))
		}
		return program(bind(api.Main, lam("s", e)))
	}
	q := great(t, "nodes", units(api.MaxNodes))
	e := &q.Binds[0].Body[0]
	for i := range api.MaxNodes - 3 {
		if e.Kind != api.SRec || len(e.Binds) != 1 || e.Binds[0].Name != "t#"+strconv.Itoa(i+1) || e.Binds[0].Con != api.Unit {
			t.Fatal(i, e.Kind, e.Binds)
		}
		e = &e.Subs[0]
	}
	if len(e.Args) != api.MaxNodes-3 || e.Args[7] != (api.Atom{Name: "t#8"}) {
		t.Error(e.Kind, len(e.Args))
	}
	if q, errno := stg.Of(units(api.MaxNodes + 1)); errno != api.ErrBig || !isZero(q) {
		t.Error(errno)
	}
	// many levels and nodes are too many at once
	p := units(api.MaxNodes + 1)
	p.Binds = append(p.Binds, boxes(api.MaxDepth).Binds...)
	if _, errno := stg.Of(p); errno != api.ErrBig {
		t.Error(errno)
	}
}

// P16.1: great programs of one sort each.
func TestGreatPrograms(t *testing.T) {
	const count = 12000
	repeat := func(head api.Expr, e func(i int) api.Expr) api.Expr {
		all := app(head)
		for i := range count {
			all.Subs = append(all.Subs, e(i))
		}
		return all
	}
	of := func(what string, e api.Expr) {
		t.Helper()
		wantGreat(t, what, program(bind(api.Main, lam("s", e))))
	}
	s := v("s")
	of("calls", repeat(s, func(i int) api.Expr { return app(s, lit(i)) }))
	of("functions", repeat(lit(1), func(i int) api.Expr { return lam(x(i), v(x(i))) }))
	of("cells", repeat(s, func(i int) api.Expr { return box(box(s)) }))
	of("Lets", repeat(s, func(i int) api.Expr { return let1(x(i), lit(i), v(x(i))) }))
	var binds []api.Bind
	for i := range count {
		binds = append(binds, bind(x(i), box(app(v(x((i+1)%count)), s))))
	}
	of("one Let", let(v(x(7)), binds...))
	wantGreat(t, "the top", program(append(binds, bind("s", lit(1)), bind(api.Main, v("s")))...))
	alts := cas(s, "k")
	for i := range count {
		alts.Alts = append(alts.Alts, litAlt(i, prim(api.Put, v("k"))))
	}
	of("alternatives", alts)
	q := great(t, "names", program(bind(api.Main, api.Expr{Kind: api.Lam, Names: xs(1 << 20), Subs: []api.Expr{lam("s", app(v(x(1<<20-1)), v(x(1<<19)), get()))}})))
	if b := q.Binds[0].Body[0].Binds[0]; !slices.Equal(b.Free, []string{x(1<<20 - 1), x(1 << 19)}) || len(q.Binds[0].Params) != 1<<20 {
		t.Error(b.Free)
	}
}

// P16.1: very many names that are free in very many closures.
func TestGreatFree(t *testing.T) {
	const count = 10000
	names := xs(count)
	wide := app(v("s"))
	for i := range count {
		wide.Subs = append(wide.Subs, v(x((i*77)%count)))
	}
	slices.Sort(names)
	for what, around := range map[string]func(i int, e api.Expr) api.Expr{
		"Lams":      func(i int, e api.Expr) api.Expr { return lam("y"+x(i), e) },
		"arguments": func(i int, e api.Expr) api.Expr { return app(lit(1), e) },
		"fields":    func(i int, e api.Expr) api.Expr { return con(api.Box, lam("y"+x(i), e)) },
		"Binds":     func(i int, e api.Expr) api.Expr { return let1("y"+x(i), e, v(x(i))) },
	} {
		p := program(bind(api.Main, api.Expr{Kind: api.Lam, Names: append(xs(count), "s"), Subs: []api.Expr{nested(most/3, wide, around)}}))
		q := great(t, what, p)
		closures := 0
		var look func(e *api.Stg)
		lookBinds := func(binds []api.SBind) {
			for i := range binds {
				b := &binds[i]
				if b.Kind == api.SCell {
					continue
				}
				want := names
				if b.Name != "s" {
					want = append([]string{"s"}, names...)
				}
				if closures++; !slices.Equal(b.Free, want) {
					t.Errorf("%s: %s has %d names", what, b.Name, len(b.Free))
				}
				look(&b.Body[0])
			}
		}
		look = func(e *api.Stg) {
			lookBinds(e.Binds)
			for i := range e.Subs {
				look(&e.Subs[i])
			}
			for i := range e.Alts {
				look(&e.Alts[i].Body)
			}
		}
		look(&q.Binds[0].Body[0])
		if closures != most/3 {
			t.Error(what, closures)
		}
	}
}

// P16.1: what is in many Lets is not looked through for each of them.
func TestManyLets(t *testing.T) {
	names := xs(most)
	wide := app(v("s"))
	for i := range 90000 {
		wide.Subs = append(wide.Subs, v(x(i%most)))
	}
	lets := func(inner api.Expr) api.Expr {
		return nested(most, inner, func(i int, e api.Expr) api.Expr { return let1(x(i), get(), e) })
	}
	chain := lets(wide)
	text := updatesOf(great(t, "many uses", program(bind(api.Main, lam("s", chain)))))
	if text != strings.Repeat("U", most) {
		t.Error(text)
	}
	for i := range wide.Subs[1:] {
		wide.Subs[1+i] = lit(i)
	}
	sum := v("s")
	for _, name := range names[:most/3] {
		sum = add(sum, v(name))
	}
	text = updatesOf(great(t, "one use", program(bind(api.Main, lam("s", nested(most/2, cas(sum, "k", other(wide)), func(i int, e api.Expr) api.Expr { return let1(x(i), get(), e) }))))))
	if text != strings.Repeat("1", most/3)+strings.Repeat("U", most/2-most/3) {
		t.Error(text)
	}
}

// updatesOf is U or 1 for each thunk of nested Lets in main.
func updatesOf(q api.SProgram) string {
	text := ""
	for e := &q.Binds[0].Body[0]; e.Kind == api.SRec; e = &e.Subs[0] {
		if e.Binds[0].Update {
			text += "U"
		} else {
			text += "1"
		}
	}
	return text
}

// Great random programs, against the second way.
func TestGreatRandom(t *testing.T) {
	m := &typed{maker: newMaker(8)}
	sizes := 0
	for range 40 {
		p := m.program(12, 9)
		size := 0
		for _, b := range p.Binds {
			size += core.Size(b.Expr)
		}
		if core.Lint(p) != api.OK || size < 2000 {
			continue
		}
		sizes += size
		wantGreat(t, "random", p)
	}
	if t.Log(sizes); sizes < 100000 {
		t.Error(sizes)
	}
}
