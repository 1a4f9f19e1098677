package stg_test

import (
	"math/rand"
	"strconv"
	"strings"
	"testing"

	"teasel/api"
	"teasel/core"
	"teasel/stg"
)

// maker makes random programs that Lint accepts; few of them make sense.
type maker struct {
	*rand.Rand
	count int
}

func newMaker(seed int64) *maker { return &maker{Rand: rand.New(rand.NewSource(seed))} }

// fresh is a name that nothing else has; some are as those that Of takes.
func (m *maker) fresh() string {
	m.count++
	switch m.Intn(40) {
	case 0:
		return "t#" + strconv.Itoa(m.count)
	case 1:
		return "t#0" + strconv.Itoa(m.count)
	}
	return "x" + strconv.Itoa(m.count)
}

func (m *maker) names(count int) []string {
	var names []string
	for range count {
		names = append(names, m.fresh())
	}
	return names
}

func with(names []string, more ...string) []string {
	return append(names[:len(names):len(names)], more...)
}

func (m *maker) leaf(scope []string) api.Expr {
	switch m.Intn(8) {
	case 0:
		return lit(m.Intn(5) - 1)
	case 1:
		return []api.Expr{raise(), get(), con(api.True), con("Nil"), lam(m.fresh(), lit(1))}[m.Intn(5)]
	case 2:
		return v(scope[m.Intn(len(scope))])
	}
	return v(scope[len(scope)-1-m.Intn(min(4, len(scope)))])
}

func (m *maker) some(count, levels int, scope []string) []api.Expr {
	var all []api.Expr
	for range count {
		all = append(all, m.expr(levels, scope))
	}
	return all
}

func (m *maker) expr(levels int, scope []string) api.Expr {
	if levels <= 1 || m.Intn(8) == 0 {
		return m.leaf(scope)
	}
	levels--
	switch m.Intn(12) {
	case 0:
		names := m.names(1 + m.Intn(3))
		return api.Expr{Kind: api.Lam, Names: names, Subs: m.some(1, levels, with(scope, names...))}
	case 1:
		return app(m.some(2+m.Intn(2), levels, scope)...)
	case 2, 3:
		return app(append([]api.Expr{v(scope[m.Intn(len(scope))])}, m.some(1+m.Intn(3), levels, scope)...)...)
	case 4, 5, 6:
		return m.let(levels, scope)
	case 7, 8:
		return m.cas(levels, scope)
	case 9, 10:
		c := []api.Cons{{Name: "Cons", Arity: 2}, {Name: "Pair", Arity: 2}, {Name: api.Box, Arity: 1}, {Name: "Many", Arity: 5}}[m.Intn(4)]
		return con(c.Name, m.some(c.Arity, levels, scope)...)
	}
	if m.Intn(6) == 0 {
		return prim(api.Put, m.expr(levels, scope))
	}
	return prim(api.Add+m.Intn(8), m.some(2, levels, scope)...)
}

func (m *maker) let(levels int, scope []string) api.Expr {
	names := m.names([]int{1, 1, 1, 1, 1, 2, 3}[m.Intn(7)])
	inside := with(scope, names...)
	var binds []api.Bind
	for _, name := range names {
		if m.Intn(6) == 0 {
			binds = append(binds, bind(name, m.expr(levels, inside)))
		} else {
			binds = append(binds, bind(name, m.expr(levels, scope)))
		}
	}
	return let(m.expr(levels, inside), binds...)
}

func (m *maker) cas(levels int, scope []string) api.Expr {
	e := cas(m.expr(levels, scope), m.fresh())
	if m.Intn(2) == 0 {
		e.Subs[0] = m.leaf(scope)
	}
	body := func(names ...string) api.Expr { return m.expr(levels, with(with(scope, e.Name), names...)) }
	switch m.Intn(4) {
	case 0:
		if m.Intn(3) > 0 {
			e.Alts = append(e.Alts, conAlt("Nil", "", body()))
		}
		if names := m.names(2); m.Intn(3) > 0 {
			e.Alts = append(e.Alts, conAlt("Cons", names[0]+" "+names[1], body(names...)))
		}
	case 1:
		if names := m.names(2); m.Intn(4) > 0 {
			e.Alts = append(e.Alts, conAlt("Pair", names[0]+" "+names[1], body(names...)))
		}
	case 2:
		for n := range 3 {
			if m.Intn(2) > 0 {
				e.Alts = append(e.Alts, litAlt(n-1, body()))
			}
		}
	}
	if len(e.Alts) == 0 || m.Intn(2) == 0 {
		e.Alts = append(e.Alts, other(body()))
	}
	return e
}

// program is one with so many names at the top beside main, in any order.
func (m *maker) program(tops, levels int) api.Program {
	m.count = 0
	scope := append(m.names(tops), api.Main)
	var binds []api.Bind
	for _, name := range scope {
		binds = append(binds, bind(name, m.expr(levels, scope)))
	}
	m.Shuffle(len(binds), func(i, j int) { binds[i], binds[j] = binds[j], binds[i] })
	return program(binds...)
}

// countBinds counts the binds of each Kind, and thunks without Update.
func countBinds(binds []api.SBind, counts map[string]int) {
	for _, b := range binds {
		switch {
		case b.Kind == api.SThunk && !b.Update:
			counts["once"]++
		case b.Kind == api.SThunk:
			counts["thunk"]++
		case b.Kind == api.SFun:
			counts["fun"]++
		default:
			counts["cell"]++
		}
		counts["free"] += len(b.Free)
		for _, e := range b.Body {
			countIn(e, counts)
		}
	}
}

func countIn(e api.Stg, counts map[string]int) {
	counts["kind "+strconv.Itoa(e.Kind)]++
	countBinds(e.Binds, counts)
	for _, s := range e.Subs {
		countIn(s, counts)
	}
	for _, a := range e.Alts {
		countIn(a.Body, counts)
	}
}

// P16.1, P16.2, P16.4, P16.5: random programs, against a second way.
func TestRandomPrograms(t *testing.T) {
	m := newMaker(1)
	counts := map[string]int{}
	for i := range 3000 {
		p := m.program(m.Intn(6), 2+i%5)
		if errno := core.Lint(p); errno != api.OK {
			t.Fatalf("%s: Lint: %v", sayProgram(p), errno)
		}
		for range 2 { // also of what Core makes
			got, want := made(t, p), refOf(p)
			if !equalSPrograms(got, want) {
				t.Fatalf("%s:\ngot  %s\nwant %s", sayProgram(p), saySBinds(got.Binds), saySBinds(want.Binds))
			}
			back := stg.Core(got)
			if !equalPrograms(back, refCore(got)) {
				t.Fatalf("%s:\ngot  %s\nwant %s", saySBinds(got.Binds), sayProgram(back), sayProgram(refCore(got)))
			}
			if errno := core.Lint(back); errno != api.OK {
				t.Fatalf("%s: Lint: %v", sayProgram(back), errno)
			}
			countBinds(got.Binds, counts)
			p = back
		}
	}
	t.Log(counts)
	if len(counts) != 11 {
		t.Error(len(counts))
	}
	for what, times := range counts {
		if times < 500 {
			t.Error(what, times)
		}
	}
}

// any is an expression of few names, which are bound in many places.
func (m *maker) any(levels int) api.Expr {
	name := func() string { return []string{"a", "b", "c", "d", "e", "f"}[m.Intn(6)] }
	names := func() string { return strings.Join([]string{name(), name(), name()}[m.Intn(4):], " ") }
	if levels <= 1 || m.Intn(9) == 0 {
		if m.Intn(3) == 0 {
			return []api.Expr{lit(1), get(), raise(), con("Nil")}[m.Intn(4)]
		}
		return v(name())
	}
	levels--
	switch m.Intn(10) {
	case 0:
		return lam(name()+" "+names(), m.any(levels))
	case 1, 2:
		e := app(m.any(levels), m.any(levels-1))
		for range m.Intn(3) {
			e.Subs = append(e.Subs, m.any(levels-1))
		}
		return e
	case 3, 4:
		e := let1(name(), m.any(levels-1), m.any(levels))
		for range m.Intn(2) {
			e.Binds = append(e.Binds, bind(name(), m.any(levels-1)))
		}
		return e
	case 5, 6:
		e := cas(m.any(levels-1), name())
		for i := range 1 + m.Intn(3) {
			e.Alts = append(e.Alts, []api.Alt{conAlt("C"+strconv.Itoa(i), names(), m.any(levels)), litAlt(i, m.any(levels)), other(m.any(levels))}[m.Intn(3)])
		}
		return e
	case 7:
		return pair(m.any(levels), m.any(levels))
	}
	return prim(api.Add+m.Intn(8), m.any(levels), m.any(levels))
}
