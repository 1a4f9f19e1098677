package core_test

import (
	"math/rand"
	"slices"
	"strconv"
	"testing"

	"teasel/api"
	"teasel/core"
)

// maker makes random expressions.
type maker struct {
	*rand.Rand
	names []string // that binders and Vars have, if they need not fit
	fits  bool     // whether Lint accepts what is made
	count int      // of the binders so far
}

func newMaker(seed int64, names ...string) *maker {
	return &maker{Rand: rand.New(rand.NewSource(seed)), names: names}
}

// binder is a name, and what is bound then.
func (m *maker) binder(scope []string) (string, []string) {
	name := ""
	if m.fits {
		m.count++
		name = []string{"x", "t#", "t#0", "y."}[m.Intn(4)] + strconv.Itoa(m.count)
	} else {
		name = m.names[m.Intn(len(m.names))]
	}
	return name, append(scope[:len(scope):len(scope)], name)
}

func (m *maker) binders(count int, scope []string) ([]string, []string) {
	var names []string
	for range count {
		var name string
		name, scope = m.binder(scope)
		names = append(names, name)
	}
	return names, scope
}

func (m *maker) leaf(scope []string) api.Expr {
	switch {
	case m.Intn(4) == 0:
		return lit(m.Intn(4) - 1)
	case !m.fits:
		return v(m.names[m.Intn(len(m.names))])
	case len(scope) == 0:
		return prim(api.Raise)
	}
	return v(scope[m.Intn(len(scope))])
}

func (m *maker) some(count, levels int, scope []string) []api.Expr {
	var all []api.Expr
	for range count {
		all = append(all, m.expr(levels, scope))
	}
	return all
}

func (m *maker) expr(levels int, scope []string) api.Expr {
	if levels <= 1 || m.Intn(8) == 0 {
		return m.leaf(scope)
	}
	levels--
	switch m.Intn(6) {
	case 0:
		names, inner := m.binders(1+m.Intn(3), scope)
		return api.Expr{Kind: api.Lam, Names: names, Subs: m.some(1, levels, inner)}
	case 1:
		return app(m.some(2+m.Intn(2), levels, scope)...)
	case 2:
		names, inner := m.binders(1+m.Intn(3), scope)
		e := api.Expr{Kind: api.Let}
		for _, name := range names {
			e.Binds = append(e.Binds, bind(name, m.expr(levels, inner)))
		}
		e.Subs = m.some(1, levels, inner)
		return e
	case 3:
		return m.cas(levels, scope)
	case 4:
		c := more()[m.Intn(len(more()))]
		return con(c.Name, m.some(c.Arity, levels, scope)...)
	}
	op := 1 + m.Intn(11)
	return prim(op, m.some([]int{0, 2, 2, 2, 2, 2, 2, 2, 2, 0, 1, 0}[op], levels, scope)...)
}

func (m *maker) cas(levels int, scope []string) api.Expr {
	e := api.Expr{Kind: api.Case, Subs: m.some(1, levels, scope)}
	var inner []string
	e.Name, inner = m.binder(scope)
	family := 1 + m.Intn(3)
	cons := slices.DeleteFunc(more(), func(c api.Cons) bool { return c.Family != family })
	m.Shuffle(len(cons), func(i, j int) { cons[i], cons[j] = cons[j], cons[i] })
	for i := range m.Intn(3) {
		if family > 1 {
			names, all := m.binders(cons[i].Arity, inner)
			e.Alts = append(e.Alts, api.Alt{Kind: api.ConAlt, Name: cons[i].Name, Names: names, Body: m.expr(levels, all)})
		} else {
			e.Alts = append(e.Alts, litAlt(i*5-2, m.expr(levels, inner)))
		}
	}
	if len(e.Alts) == 0 || m.Intn(2) == 0 {
		e.Alts = append(e.Alts, other(m.expr(levels, inner)))
	}
	return e
}

func (m *maker) program(levels int) api.Program {
	top := []string{api.Main, "q1", "q2", "q3"}[:1+m.Intn(4)]
	p := api.Program{Cons: more()}
	for _, name := range top {
		p.Binds = append(p.Binds, bind(name, m.expr(levels, top)))
	}
	m.Shuffle(len(p.Binds), func(i, j int) { p.Binds[i], p.Binds[j] = p.Binds[j], p.Binds[i] })
	return p
}

// P10.2, P10.3, P10.4: random expressions, in which names are bound in some
// places and free in others.
func TestRandomExpressions(t *testing.T) {
	m := newMaker(1, "a", "b", "c", "t#1", "t#2", "t#30", "t#04")
	open := 0
	for range 20000 {
		e, by := m.expr(1+m.Intn(6), nil), m.expr(1+m.Intn(3), nil)
		if got, want := core.Free(e), refFree(e); !slices.Equal(got, want) {
			t.Fatalf("Free of %s: got %v, want %v", say(e), got, want)
		} else if len(want) > 0 && len(refBinders(e)) > 0 {
			open++
		}
		if got, want := core.Binders(e), refBinders(e); !slices.Equal(got, want) {
			t.Fatalf("Binders of %s: got %v, want %v", say(e), got, want)
		}
		if size, depth := core.Size(e), core.Depth(e); size != refSize(e) || depth != refDepth(e) {
			t.Fatalf("%s: %d, %d", say(e), size, depth)
		}
		for _, name := range append(m.names, "d") {
			got, want := core.Replace(e, name, by), refReplace(e, name, by)
			if !equal(got, want) {
				t.Fatalf("%s for %s in %s: got %s, want %s", say(by), name, say(e), say(got), say(want))
			}
			if core.Same(got, e) != equal(got, e) || core.Same(e, want) != equal(e, want) || !core.Same(got, want) {
				t.Fatalf("%s and %s: Same", say(got), say(e))
			}
			if !slices.Contains(refFree(e), name) && !core.Same(got, e) {
				t.Fatalf("%s is not free in %s: got %s", name, say(e), say(got))
			}
		}
		p := api.Program{Binds: []api.Bind{bind("a", e), bind("t#3", by)}}
		if got, want := core.Next(p), refNext(p); got != want {
			t.Fatalf("%s: got %d, want %d", sayBinds(p.Binds), got, want)
		}
	}
	t.Log(open)
	if open < 5000 {
		t.Error("too few:", open)
	}
}

// P10.5: random binds, and names that some of them share.
func TestRandomGroups(t *testing.T) {
	m := newMaker(2, "a", "b", "c", "d", "e", "f", "g", "h")
	counts := map[int]int{}
	for range 6000 {
		var binds []api.Bind
		count, levels := m.Intn(9), 1+m.Intn(3)
		for i := range count {
			name := m.names[i]
			if m.Intn(6) == 0 {
				name = m.names[m.Intn(len(m.names))]
			}
			binds = append(binds, bind(name, m.expr(levels, nil)))
		}
		want := refGroups(binds)
		wantGroups(t, sayGroups(want), binds...)
		counts[len(want)]++
	}
	t.Log(counts)
	if len(counts) < 9 {
		t.Error(counts)
	}
}

// nodesIn is where all expressions of a program are.
func nodesIn(p api.Program) []*api.Expr {
	var all []*api.Expr
	var walk func(e *api.Expr)
	walk = func(e *api.Expr) {
		all = append(all, e)
		for i := range e.Subs {
			walk(&e.Subs[i])
		}
		for i := range e.Binds {
			walk(&e.Binds[i].Expr)
		}
		for i := range e.Alts {
			walk(&e.Alts[i].Body)
		}
	}
	for i := range p.Binds {
		walk(&p.Binds[i].Expr)
	}
	return all
}

// drop is a list without one of its elements.
func drop[T any](m *maker, list []T) []T {
	if len(list) == 0 {
		return nil
	}
	i := m.Intn(len(list))
	return append(list[:i:i], list[i+1:]...)
}

// double is a list in which one of its elements stands once more.
func double[T any](m *maker, list []T) []T {
	if len(list) == 0 {
		return nil
	}
	i, j := m.Intn(len(list)), m.Intn(len(list)+1)
	return slices.Insert(slices.Clone(list), j, list[i])
}

// spoil changes something in a program.
func (m *maker) spoil(p *api.Program) {
	nodes := nodesIn(*p)
	if len(nodes) == 0 {
		return
	}
	e := nodes[m.Intn(len(nodes))]
	another := clone(*nodes[m.Intn(len(nodes))])
	switch m.Intn(17) {
	case 0:
		e.Kind = m.Intn(10)
	case 1:
		e.Name = another.Name
	case 2:
		e.N = m.Intn(2)
	case 3:
		e.Op = m.Intn(13)
	case 4:
		e.Names = drop(m, e.Names)
	case 5:
		e.Names = double(m, e.Names)
	case 6:
		e.Subs = drop(m, e.Subs)
	case 7:
		e.Subs = double(m, e.Subs)
	case 8:
		e.Binds = drop(m, e.Binds)
	case 9:
		e.Alts = drop(m, e.Alts)
	case 10:
		e.Alts = double(m, e.Alts)
	case 11:
		m.Shuffle(len(e.Alts), func(i, j int) { e.Alts[i], e.Alts[j] = e.Alts[j], e.Alts[i] })
	case 12:
		e.Alts = append(e.Alts, another.Alts...)
	case 13:
		*e = another
	case 14:
		p.Binds = drop(m, p.Binds)
	case 15:
		m.spoilCons(p)
	case 16:
		m.spoilAlts(nodes)
	}
}

// spoilAlts gives a Case one more alternative.
func (m *maker) spoilAlts(nodes []*api.Expr) {
	more := []api.Alt{other(lit(1)), litAlt(-2, lit(1)), litAlt(3, lit(1)), conAlt("R", "", lit(1)), conAlt("Nil", "", lit(1))}
	for _, e := range nodes {
		if e.Kind == api.Case && m.Intn(2) == 0 {
			e.Alts = slices.Insert(slices.Clone(e.Alts), m.Intn(len(e.Alts)+1), more[m.Intn(len(more))])
		}
	}
}

func (m *maker) spoilCons(p *api.Program) {
	if len(p.Cons) == 0 {
		return
	}
	c := &p.Cons[m.Intn(len(p.Cons))]
	switch m.Intn(6) {
	case 0:
		c.Arity += m.Intn(3) - 1
	case 1:
		c.Tag += m.Intn(3) - 1
	case 2:
		c.Family += m.Intn(3) - 1
	case 3:
		c.Name = []string{"", "Nil", "Q"}[m.Intn(3)]
	case 4:
		p.Cons = drop(m, p.Cons)
	case 5:
		p.Cons = double(m, p.Cons)
	}
}

// P10.1: random programs that Lint accepts, and what becomes of them by changes.
func TestRandomPrograms(t *testing.T) {
	m := newMaker(3)
	m.fits = true
	counts := map[string]int{}
	for range 20000 {
		m.count = 0
		p := m.program(1 + m.Intn(5))
		wantLint(t, sayBinds(p.Binds), api.OK, p)
		if got, want := core.Next(p), refNext(p); got != want {
			t.Fatalf("%s: got %d, want %d", sayBinds(p.Binds), got, want)
		}
		for range 1 + m.Intn(3) {
			m.spoil(&p)
		}
		want := refLint(p)
		wantLint(t, sayBinds(p.Binds), want, p)
		counts[errorText(want)]++
	}
	t.Log(counts)
	for _, errno := range []api.Errno{api.OK, api.ErrShape, api.ErrCons, api.ErrName, api.ErrScope, api.ErrArity, api.ErrAlts, api.ErrNoMain} {
		if counts[errorText(errno)] < 150 {
			t.Error("too few:", errorText(errno), counts)
		}
	}
}
