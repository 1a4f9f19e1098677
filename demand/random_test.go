package demand_test

import (
	"math/rand"
	"slices"
	"strconv"
	"strings"
	"testing"

	"teasel/api"
	"teasel/core"
	"teasel/demand"
)

// maker makes random programs that Lint accepts; few of them make sense. They have
// much of what demands something first.
type maker struct {
	*rand.Rand
	count int
	tops  []api.Order // the functions at the top, and how many arguments they take
}

func newMaker(seed int64) *maker { return &maker{Rand: rand.New(rand.NewSource(seed))} }

// fresh is a name that nothing else has; some are as those that Run takes.
func (m *maker) fresh() string {
	m.count++
	switch m.Intn(40) {
	case 0:
		return "t#" + strconv.Itoa(m.count)
	case 1:
		return "t#0" + strconv.Itoa(m.count)
	}
	return "x" + strconv.Itoa(m.count)
}

func (m *maker) names(count int) []string {
	var names []string
	for range count {
		names = append(names, m.fresh())
	}
	return names
}

func with(names []string, more ...string) []string {
	return append(names[:len(names):len(names)], more...)
}

func (m *maker) leaf(scope []string) api.Expr {
	switch m.Intn(12) {
	case 0:
		return lit(m.Intn(3))
	case 1:
		return []api.Expr{raise(), get(), con(api.True), con("Nil"), lam(m.fresh(), lit(1))}[m.Intn(5)]
	}
	if m.Intn(8) == 0 {
		return v(scope[m.Intn(len(scope))])
	}
	return v(scope[len(scope)-1-m.Intn(min(4, len(scope)))])
}

func (m *maker) some(count, levels int, scope []string) []api.Expr {
	var all []api.Expr
	for range count {
		all = append(all, m.expr(levels, scope))
	}
	return all
}

func (m *maker) expr(levels int, scope []string) api.Expr {
	if levels <= 1 || m.Intn(8) == 0 {
		return m.leaf(scope)
	}
	levels--
	switch m.Intn(14) {
	case 0:
		return m.lam(1+m.Intn(3), levels, scope)
	case 1:
		return app(m.some(2+m.Intn(2), levels, scope)...)
	case 2, 3, 4, 5:
		if len(m.tops) == 0 {
			return m.leaf(scope)
		}
		f := m.tops[m.Intn(len(m.tops))]
		count := f.Arity + []int{0, 0, 0, 0, 1, -1}[m.Intn(6)]
		e := app(append([]api.Expr{v(f.Name)}, m.some(max(count, 1), levels, scope)...)...)
		for i := range e.Subs[1:] {
			if arg := &e.Subs[1+i]; arg.Kind == api.Var && m.Intn(2) == 0 {
				*arg = add(*arg, lit(1))
			}
		}
		return e
	case 6, 7, 8:
		return m.let(levels, scope)
	case 9, 10:
		return m.cas(levels, scope)
	case 11:
		c := []api.Cons{{Name: "Cons", Arity: 2}, {Name: "Pair", Arity: 2}, {Name: api.Box, Arity: 1}}[m.Intn(3)]
		return con(c.Name, m.some(c.Arity, levels, scope)...)
	}
	if m.Intn(6) == 0 {
		return prim(api.Put, m.expr(levels, scope))
	}
	return prim([]int{api.Add, api.Minus, api.Mul, api.Eq, api.Lt, api.Le, api.Quot, api.Rem}[m.Intn(8)], m.some(2, levels, scope)...)
}

func (m *maker) lam(count, levels int, scope []string) api.Expr {
	names := m.names(count)
	return api.Expr{Kind: api.Lam, Names: names, Subs: m.some(1, levels, with(scope, names...))}
}

func (m *maker) let(levels int, scope []string) api.Expr {
	names := m.names([]int{1, 1, 1, 1, 1, 2, 3}[m.Intn(7)])
	inside := with(scope, names...)
	var binds []api.Bind
	for _, name := range names {
		if m.Intn(6) == 0 {
			binds = append(binds, bind(name, m.expr(levels, inside)))
		} else {
			binds = append(binds, bind(name, m.expr(levels, scope)))
		}
	}
	return let(m.expr(levels, inside), binds...)
}

func (m *maker) cas(levels int, scope []string) api.Expr {
	e := cas(m.expr(levels, scope), m.fresh())
	if m.Intn(2) == 0 {
		e.Subs[0] = m.leaf(scope)
	}
	inside := with(scope, e.Name)
	same := v(inside[m.Intn(len(inside))])
	body := func(names ...string) api.Expr {
		switch all := with(inside, names...); m.Intn(4) {
		case 0:
			return same
		case 1:
			return add(same, m.expr(levels-1, all))
		default:
			return m.expr(levels, all)
		}
	}
	switch m.Intn(4) {
	case 0:
		if m.Intn(3) > 0 {
			e.Alts = append(e.Alts, conAlt("Nil", "", body()))
		}
		if names := m.names(2); m.Intn(3) > 0 {
			e.Alts = append(e.Alts, conAlt("Cons", names[0]+" "+names[1], body(names...)))
		}
	case 1:
		if names := m.names(2); m.Intn(4) > 0 {
			e.Alts = append(e.Alts, conAlt("Pair", names[0]+" "+names[1], body(names...)))
		}
	case 2:
		for n := range 3 {
			if m.Intn(2) > 0 {
				e.Alts = append(e.Alts, litAlt(n, body()))
			}
		}
	}
	if len(e.Alts) == 0 || m.Intn(2) == 0 {
		e.Alts = append(e.Alts, other(body()))
	}
	return e
}

// function is a Lam, which may look at its arguments in any order.
func (m *maker) function(arity, levels int, scope []string) api.Expr {
	names := m.names(arity)
	body := m.expr(levels, with(scope, names...))
	for _, i := range m.Perm(arity)[m.Intn(arity+1):] {
		switch m.Intn(3) {
		case 0:
			body = cas(v(names[i]), m.fresh(), other(body))
		case 1:
			body = cas(v(names[i]), m.fresh(), litAlt(0, body), other(v(names[m.Intn(arity)])))
		case 2:
			body = add(v(names[i]), body)
		}
	}
	return api.Expr{Kind: api.Lam, Names: names, Subs: []api.Expr{body}}
}

// program is one with so many names at the top beside main, in any order.
func (m *maker) program(tops, levels int) api.Program {
	m.count, m.tops = 0, nil
	scope := append(m.names(tops), api.Main)
	for _, name := range scope[:tops] {
		if m.Intn(6) > 0 {
			m.tops = append(m.tops, api.Order{Name: name, Arity: 1 + m.Intn(4)})
		}
	}
	var binds []api.Bind
	for _, name := range scope {
		e := api.Expr{}
		if at := slices.IndexFunc(m.tops, func(f api.Order) bool { return f.Name == name }); at >= 0 {
			e = m.function(m.tops[at].Arity, levels, scope)
		} else {
			e = m.expr(levels, scope)
		}
		binds = append(binds, bind(name, e))
	}
	m.Shuffle(len(binds), func(i, j int) { binds[i], binds[j] = binds[j], binds[i] })
	return program(binds...)
}

// P15.1, P15.2: random programs, against a second way.
func TestRandomPrograms(t *testing.T) {
	m := newMaker(1)
	counts := map[string]int{}
	rounds := map[int]int{}
	for i := range 6000 {
		p := m.program(m.Intn(6), 2+i%6)
		if errno := core.Lint(p); errno != api.OK {
			t.Fatalf("%s: Lint: %v", sayProgram(p), errno)
		}
		orders, times := refOrders(p)
		wantOrders(t, p, orders...)
		rounds[times]++
		for range 3 { // also of what Run has made
			want := refRun(p, counts)
			if got := changed(t, p); !equalPrograms(got, want) {
				t.Fatalf("%s:\ngot  %s\nwant %s", sayProgram(p), sayProgram(got), sayProgram(want))
			}
			p = want
		}
	}
	t.Log(counts, rounds)
	if len(counts) != 17 || rounds[2] < 200 || rounds[3] < 5 {
		t.Error(len(counts))
	}
	for what, times := range counts {
		if times < 100 && what != "refused" {
			t.Error(what, times)
		}
	}
}

// any is an expression of few names, which are bound in many places.
func (m *maker) any(levels int) api.Expr {
	name := func() string { return []string{"a", "b", "c", "d", "f", "g"}[m.Intn(6)] }
	names := func() string { return strings.Join([]string{name(), name(), name()}[m.Intn(4):], " ") }
	if levels <= 1 || m.Intn(9) == 0 {
		if m.Intn(9) == 0 {
			return []api.Expr{lit(1), get(), raise(), con("Nil")}[m.Intn(4)]
		}
		return v(name())
	}
	levels--
	switch m.Intn(15) {
	case 0:
		return lam(name()+" "+names(), m.any(levels))
	case 1, 2, 3:
		e := app(v([]string{"f", "g", "h"}[m.Intn(3)]), m.any(levels))
		if m.Intn(6) == 0 {
			e.Subs[0] = m.any(levels)
		}
		for range m.Intn(4) {
			e.Subs = append(e.Subs, m.any(levels))
		}
		return e
	case 4, 5:
		e := let1(name(), m.any(levels-1), m.any(levels))
		for range m.Intn(2) {
			e.Binds = append(e.Binds, bind(name(), m.any(levels-1)))
		}
		return e
	case 6, 7, 8:
		e := cas(m.any(levels-1), name())
		for i := range 1 + m.Intn(3) {
			e.Alts = append(e.Alts, []api.Alt{conAlt("C"+strconv.Itoa(i), names(), m.any(levels)), litAlt(i, m.any(levels)), other(m.any(levels))}[m.Intn(3)])
			if i > 0 && m.Intn(2) == 0 {
				e.Alts[i].Body = e.Alts[0].Body
			}
			if i > 0 && m.Intn(4) == 0 {
				e.Alts[i].Body = add(e.Alts[0].Body, m.any(levels-1))
			}
		}
		return e
	}
	return prim([]int{api.Add, api.Minus, api.Mul, api.Eq, api.Lt, api.Le, api.Quot, api.Rem}[m.Intn(8)], m.any(levels), m.any(levels))
}

// anyOrders is orders of any numbers.
func (m *maker) anyOrders() []api.Order {
	var orders []api.Order
	for range m.Intn(4) {
		o := order([]string{"f", "g", "h", "a"}[m.Intn(4)], m.Intn(5)-1)
		for range m.Intn(5) {
			o.Numbers = append(o.Numbers, m.Intn(20)%5-m.Intn(20)/19)
		}
		orders = append(orders, o)
	}
	return orders
}

// P15.1, P15.4: any expressions and orders, against a second way; what is demanded
// first is free, and told once.
func TestRandomFirst(t *testing.T) {
	m := newMaker(2)
	lengths := map[int]int{}
	for i := range 60000 {
		e, orders := m.any(2+i%6), m.anyOrders()
		got := demand.First(e, orders...)
		if want := refFirst(e, orders); !slices.Equal(got, want) {
			t.Fatalf("%s, %v:\ngot  %v\nwant %v", say(e), orders, got, want)
		}
		if len(once(got)) < len(got) {
			t.Fatalf("%s, %v: %v", say(e), orders, got)
		}
		free := core.Free(e)
		for _, name := range got {
			if !slices.Contains(free, name) {
				t.Fatalf("%s, %v: %s is not free", say(e), orders, name)
			}
		}
		lengths[len(got)]++
	}
	t.Log(lengths)
	for n := range 5 {
		if lengths[n] < 200 {
			t.Error(n, lengths[n])
		}
	}
}
