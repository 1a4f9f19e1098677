package simplify_test

import (
	"math/rand"
	"strconv"
	"testing"

	"teasel/api"
	"teasel/core"
)

// maker makes random programs that Lint accepts; few of them make sense.
type maker struct {
	*rand.Rand
	count int
}

func newMaker(seed int64) *maker { return &maker{Rand: rand.New(rand.NewSource(seed))} }

// fresh is a name that nothing else has; some are as those that passes take.
func (m *maker) fresh() string {
	m.count++
	switch m.Intn(40) {
	case 0:
		return "t#" + strconv.Itoa(m.count)
	case 1:
		return "t#0" + strconv.Itoa(m.count)
	}
	return "x" + strconv.Itoa(m.count)
}

func (m *maker) names(count int) []string {
	var names []string
	for range count {
		names = append(names, m.fresh())
	}
	return names
}

func with(names []string, more ...string) []string {
	return append(names[:len(names):len(names)], more...)
}

func (m *maker) leaf(scope []string) api.Expr {
	switch m.Intn(12) {
	case 0, 1, 2:
		return lit(m.Intn(3))
	case 3:
		return con("Nil")
	case 4:
		return []api.Expr{raise(), get(), con(api.True)}[m.Intn(3)]
	}
	if m.Intn(3) == 0 {
		return v(scope[m.Intn(len(scope))])
	}
	return v(scope[len(scope)-1-m.Intn(min(4, len(scope)))])
}

func (m *maker) some(count, levels int, scope []string) []api.Expr {
	var all []api.Expr
	for range count {
		all = append(all, m.expr(levels, scope))
	}
	return all
}

func (m *maker) expr(levels int, scope []string) api.Expr {
	if levels <= 1 || m.Intn(9) == 0 {
		return m.leaf(scope)
	}
	levels--
	switch m.Intn(12) {
	case 0:
		return m.lam(levels, scope)
	case 1, 2:
		f := m.expr(levels, scope)
		if m.Intn(3) == 0 {
			f = m.lam(levels, scope)
		}
		return app(append([]api.Expr{f}, m.some(1+m.Intn(3), levels, scope)...)...)
	case 3, 4, 5:
		return m.let(levels, scope)
	case 6, 7, 8, 9:
		return m.cas(levels, scope)
	case 10:
		c := []api.Cons{{Name: "Cons", Arity: 2}, {Name: "Pair", Arity: 2}, {Name: api.Box, Arity: 1}}[m.Intn(3)]
		return con(c.Name, m.some(c.Arity, levels, scope)...)
	}
	if m.Intn(4) == 0 {
		return prim(api.Put, m.expr(levels, scope))
	}
	return prim(1+m.Intn(api.Le), m.some(2, levels, scope)...)
}

func (m *maker) lam(levels int, scope []string) api.Expr {
	names := m.names(1 + m.Intn(3))
	return api.Expr{Kind: api.Lam, Names: names, Subs: m.some(1, levels, with(scope, names...))}
}

func (m *maker) let(levels int, scope []string) api.Expr {
	names := m.names([]int{1, 1, 1, 1, 2, 3, 4}[m.Intn(7)])
	inside := with(scope, names...)
	var binds []api.Bind
	for _, name := range names {
		if m.Intn(3) == 0 {
			binds = append(binds, bind(name, m.expr(levels, inside)))
		} else {
			binds = append(binds, bind(name, m.expr(levels, scope)))
		}
	}
	return let(m.expr(levels, inside), binds...)
}

func (m *maker) cas(levels int, scope []string) api.Expr {
	e := cas(m.expr(levels, scope), m.fresh())
	inside := with(scope, e.Name)
	body := func(names ...string) api.Expr { return m.expr(levels, with(inside, names...)) }
	switch m.Intn(4) {
	case 0:
		if m.Intn(3) > 0 {
			e.Alts = append(e.Alts, conAlt("Nil", "", body()))
		}
		if names := m.names(2); m.Intn(3) > 0 {
			e.Alts = append(e.Alts, conAlt("Cons", names[0]+" "+names[1], body(names...)))
		}
	case 1:
		if names := m.names(2); m.Intn(4) > 0 {
			e.Alts = append(e.Alts, conAlt("Pair", names[0]+" "+names[1], body(names...)))
		}
	case 2:
		for n := range 3 {
			if m.Intn(2) > 0 {
				e.Alts = append(e.Alts, litAlt(n, body()))
			}
		}
	}
	if len(e.Alts) == 0 || m.Intn(2) == 0 {
		e.Alts = append(e.Alts, other(body()))
	}
	return e
}

// program is one with so many names at the top beside main, in any order.
func (m *maker) program(tops, levels int) api.Program {
	m.count = 0
	scope := append(m.names(tops), api.Main)
	var binds []api.Bind
	for _, name := range scope {
		binds = append(binds, bind(name, m.expr(levels, scope)))
	}
	m.Shuffle(len(binds), func(i, j int) { binds[i], binds[j] = binds[j], binds[i] })
	return program(binds...)
}

// P14.1, P14.2: random programs, against a second way.
func TestRandomPasses(t *testing.T) {
	m := newMaker(1)
	rules := map[string]int{}
	for i := range 9000 {
		p := m.program(m.Intn(4), 2+i%6)
		if errno := core.Lint(p); errno != api.OK {
			t.Fatalf("%s: Lint: %v", sayProgram(p), errno)
		}
		now, passes := p, m.Intn(6)
		for range passes {
			want := refPass(now, rules)
			if got := pass(t, now); !equalPrograms(got, want) {
				t.Fatalf("%s:\ngot  %s\nwant %s", sayProgram(now), sayProgram(got), sayProgram(want))
			}
			now = want
		}
		wantRun(t, p, passes, now)
	}
	t.Log(rules)
	if len(rules) != 25 {
		t.Error(len(rules))
	}
	for rule, times := range rules {
		if times < 50 {
			t.Error(rule, times)
		}
	}
}
