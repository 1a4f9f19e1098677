package occur_test

import (
	"slices"
	"strconv"
	"testing"

	"teasel/api"
	"teasel/core"
	"teasel/occur"
)

// numbers makes random programs, all of whose expressions are numbers: some write
// when they are evaluated, read, or fail.
type numbers struct {
	*maker
	count int
	tops  []string // the names at the top, which are numbers
}

// fresh is a name that nothing else has.
func (m *numbers) fresh() string {
	m.count++
	return "x" + strconv.Itoa(m.count)
}

// number is a number in which some numbers, and some functions of one number, are
// known.
func (m *numbers) number(levels int, known, functions []string) api.Expr {
	if levels <= 1 {
		return m.leaf(known)
	}
	levels--
	again := func() api.Expr { return m.number(levels, known, functions) }
	switch m.Intn(9) {
	case 0:
		return m.leaf(known)
	case 1:
		return prim([]int{api.Add, api.Minus, api.Mul, api.Quot}[m.Intn(4)], again(), again())
	case 2: // a byte is written ahead
		return cas(prim(api.Put, lit('a'+m.Intn(26))), m.fresh(), other(again()))
	case 3:
		x := m.fresh()
		return cas(again(), x, litAlt(m.Intn(3), again()), other(m.number(levels, with(known, x), functions)))
	case 4:
		c, a, b := m.fresh(), m.fresh(), m.fresh()
		return cas(con("Pair", again(), again()), c, conAlt("Pair", a+" "+b, m.number(levels, with(known, a, b), functions)))
	case 5:
		if len(functions) > 0 {
			return app(v(functions[m.Intn(len(functions))]), again())
		}
		return again()
	case 6:
		f, x := m.fresh(), m.fresh()
		return let(m.number(levels, known, with(functions, f)), bind(f, lam(x, m.number(levels, with(known, x), functions))))
	}
	x := m.fresh()
	return let(m.number(levels, with(known, x), functions), bind(x, again()))
}

func with(names []string, more ...string) []string {
	return append(names[:len(names):len(names)], more...)
}

func (m *numbers) leaf(known []string) api.Expr {
	switch {
	case m.Intn(30) == 0:
		return prim(api.Raise)
	case m.Intn(8) == 0:
		return prim(api.Get)
	case len(known) == 0 || m.Intn(4) == 0:
		return lit(m.Intn(3))
	}
	return v(known[len(known)-1-m.Intn(min(len(known), 3))])
}

// program is one with names at the top, the later ones of which use the earlier
// ones, in another order.
func (m *numbers) program(tops, levels int) api.Program {
	m.count, m.tops = 0, nil
	var binds []api.Bind
	for range tops {
		name := "M." + m.fresh()
		binds = append(binds, bind(name, m.number(levels-1, m.tops, nil)))
		m.tops = append(m.tops, name)
	}
	binds = append(binds, boxed(m.number(levels, m.tops, nil)))
	m.Shuffle(len(binds), func(i, j int) { binds[i], binds[j] = binds[j], binds[i] })
	return program(binds...)
}

// lets tells where the Lets of one bind are in an expression.
func lets(e *api.Expr, tell func(let *api.Expr)) {
	for i := range e.Subs {
		lets(&e.Subs[i], tell)
	}
	for i := range e.Binds {
		lets(&e.Binds[i].Expr, tell)
	}
	for i := range e.Alts {
		lets(&e.Alts[i].Body, tell)
	}
	if e.Kind == api.Let && len(e.Binds) == 1 {
		tell(e)
	}
}

// inlined is a program in which the expressions of some Lets stand in the place of
// their names, and in how many.
func inlined(p api.Program, choose func(body api.Expr, name string) bool) (api.Program, int) {
	count := 0
	var binds []api.Bind
	for _, b := range p.Binds {
		e := core.Replace(b.Expr, "", lit(0)) // a copy
		lets(&e, func(let *api.Expr) {
			name, by, body := let.Binds[0].Name, let.Binds[0].Expr, let.Subs[0]
			if !slices.Contains(core.Free(by), name) && choose(body, name) {
				*let = core.Replace(body, name, by)
				count++
			}
		})
		binds = append(binds, bind(b.Name, e))
	}
	return api.Program{Cons: p.Cons, Binds: binds}, count
}

// P13.4: an expression may stand in the place of a name that occurs Once: what it
// does, it does as often, and no earlier. The same may not be said of others.
func TestInlining(t *testing.T) {
	m := &numbers{maker: newMaker(4)}
	changed, ends := 0, map[int]int{}
	total := 0
	for range 6000 {
		p := m.program(m.Intn(3), 3+m.Intn(4))
		if errno := core.Lint(p); errno != api.OK {
			t.Fatalf("%s: Lint: %v", sayBinds(p.Binds), errno)
		}
		want := run(p, "ab")
		ends[want.End]++
		once, count := inlined(p, occur.Once)
		if got := run(once, "ab"); got != want {
			t.Fatalf("%s: %+v, but %+v for %s", sayBinds(p.Binds), want, got, sayBinds(once.Binds))
		}
		total += count
		often, _ := inlined(p, func(body api.Expr, name string) bool { return !occur.Once(body, name) && core.Size(body) < 1000 })
		if got := run(often, "ab"); got != want {
			changed++
		}
	}
	t.Log(ends, total, changed)
	if ends[api.Done] < 1000 || ends[api.Failed] < 300 || len(ends) > 2 || total < 3000 || changed < 50 {
		t.Error(ends, total, changed)
	}
}

// What occurs twice, or inside a Lam, would be evaluated more often, or is not to be
// evaluated at all where it is bound.
func TestNotOnce(t *testing.T) {
	x := v("x")
	writes := func(e api.Expr) api.Expr { return cas(prim(api.Put, lit('w')), "u", other(e)) }
	f := func(body api.Expr) api.Expr {
		return let(prim(api.Add, app(v("f"), lit(1)), app(v("f"), lit(2))), bind("f", lam("y", body)))
	}
	for _, c := range []struct {
		body          api.Expr
		once          bool
		want, instead string // what is written
	}{
		{prim(api.Add, x, lit(1)), true, "w", "w"},
		{lit(1), false, "", ""},
		{prim(api.Add, x, x), false, "w", "ww"},
		{f(x), false, "w", "ww"},
		{app(lam("y", x), lit(1)), false, "w", "w"},
		{cas(lit(1), "z", litAlt(2, x), other(lit(3))), true, "", ""},
		{cas(prim(api.Put, lit('v')), "z", other(x)), true, "vw", "vw"},
		{let(prim(api.Add, v("z"), v("z")), bind("z", x)), true, "w", "w"},
	} {
		if occur.Once(c.body, "x") != c.once {
			t.Errorf("%s: Once: got %v", say(c.body), !c.once)
		}
		p, q := program(boxed(let(c.body, bind("x", writes(lit(5)))))), program(boxed(core.Replace(c.body, "x", writes(lit(5)))))
		if got, instead := run(p, "").Out, run(q, "").Out; got != c.want || instead != c.instead {
			t.Errorf("%s: got %q and %q, want %q and %q", say(c.body), got, instead, c.want, c.instead)
		}
	}
}

// P13.4: the Binds that are not reached may be removed, and no others.
func TestRemoving(t *testing.T) {
	m := &numbers{maker: newMaker(5)}
	removed, kept := 0, 0
	for range 3000 {
		p := m.program(1+m.Intn(8), 2+m.Intn(3))
		reached := occur.Reached(p)
		less := program(slices.DeleteFunc(slices.Clone(p.Binds), func(b api.Bind) bool { return !slices.Contains(reached, b.Name) })...)
		if errno := core.Lint(less); errno != api.OK || len(less.Binds) != len(reached) {
			t.Fatalf("%s: Lint: %v", sayBinds(p.Binds), errno)
		}
		if got, want := run(less, "ab"), run(p, "ab"); got != want {
			t.Fatalf("%s: got %+v, want %+v", sayBinds(p.Binds), got, want)
		}
		removed += len(p.Binds) - len(reached)
		kept += len(reached)
		for i := range less.Binds {
			if fewer := program(slices.Delete(slices.Clone(less.Binds), i, i+1)...); core.Lint(fewer) == api.OK {
				t.Fatalf("%s: %s is not needed", sayBinds(p.Binds), less.Binds[i].Name)
			}
		}
	}
	t.Log(removed, kept)
	if removed < 1000 || kept < 5000 {
		t.Error(removed, kept)
	}
}

// P13.4 for what is live in a Let.
func TestDropping(t *testing.T) {
	m := &numbers{maker: newMaker(6)}
	dropped := 0
	for range 3000 {
		p := m.program(m.Intn(2), 5)
		fewer, _ := inlined(p, func(api.Expr, string) bool { return false })
		for i := range fewer.Binds {
			lets(&fewer.Binds[i].Expr, func(let *api.Expr) {
				if len(occur.Live(let.Subs[0], let.Binds...)) == 0 {
					dropped++
					*let = let.Subs[0]
				}
			})
		}
		if got, want := run(fewer, "ab"), run(p, "ab"); got != want {
			t.Fatalf("%s: got %+v, want %+v", sayBinds(p.Binds), got, want)
		}
	}
	if dropped < 1000 {
		t.Error(dropped)
	}
}
