package occur_test

import (
	"math/rand"
	"slices"
	"strconv"
	"testing"

	"teasel/api"
	"teasel/occur"
)

// maker makes random expressions, in which few names are bound and occur in all
// places.
type maker struct {
	*rand.Rand
	names []string
}

func newMaker(seed int64, names ...string) *maker {
	return &maker{Rand: rand.New(rand.NewSource(seed)), names: names}
}

func (m *maker) name() string { return m.names[m.Intn(len(m.names))] }

func (m *maker) some(count, levels int) []api.Expr {
	var all []api.Expr
	for range count {
		all = append(all, m.expr(levels))
	}
	return all
}

func (m *maker) expr(levels int) api.Expr {
	if levels <= 1 || m.Intn(8) == 0 {
		if m.Intn(4) == 0 {
			return lit(m.Intn(4))
		}
		return v(m.name())
	}
	levels--
	switch m.Intn(6) {
	case 0:
		e := lam("", m.expr(levels))
		for range 1 + m.Intn(3) {
			e.Names = append(e.Names, m.name())
		}
		return e
	case 1:
		return app(m.some(2+m.Intn(2), levels)...)
	case 2:
		e := let(m.expr(levels))
		for range 1 + m.Intn(3) {
			e.Binds = append(e.Binds, bind(m.name(), m.expr(levels)))
		}
		return e
	case 3:
		e := cas(m.expr(levels), m.name())
		if m.Intn(2) == 0 {
			e.Alts = append(e.Alts, conAlt("Cons", m.name()+" "+m.name(), m.expr(levels)), conAlt("Nil", "", m.expr(levels)))
		} else {
			e.Alts = append(e.Alts, litAlt(1, m.expr(levels)), other(m.expr(levels)))
		}
		return e
	case 4:
		return con("Pair", m.some(2, levels)...)
	}
	return prim(api.Add, m.some(2, levels)...)
}

// P13.1: random expressions.
func TestRandomUses(t *testing.T) {
	m := newMaker(1, "a", "b", "c", "d", "e", "f")
	counts := map[string]int{}
	for range 20000 {
		e := m.expr(1 + m.Intn(6))
		for _, name := range append(m.names, "g") {
			times, inside := refUses(e, name)
			wantUses(t, e, name, times, inside)
			counts[strconv.Itoa(min(times, 3))+strconv.FormatBool(inside)]++
		}
		if t.Failed() {
			t.FailNow()
		}
	}
	t.Log(counts)
	if len(counts) < 7 {
		t.Error(counts)
	}
}

// P13.2: random binds, some of which have the same name.
func TestRandomLive(t *testing.T) {
	m := newMaker(2, "a", "b", "c", "d", "e", "f", "g", "h")
	counts := map[int]int{}
	for range 6000 {
		var binds []api.Bind
		levels := 1 + m.Intn(3)
		for i := range m.Intn(9) {
			name := m.names[i]
			if m.Intn(6) == 0 {
				name = m.name()
			}
			binds = append(binds, bind(name, m.expr(levels)))
		}
		body := m.expr(levels)
		got, want := occur.Live(body, binds...), refLive(body, binds)
		if !slices.Equal(got, want) {
			t.Fatalf("%s with %s: got %v, want %v", say(body), sayBinds(binds), got, want)
		}
		counts[len(want)]++
	}
	t.Log(counts)
	if len(counts) < 9 {
		t.Error(counts)
	}
}

// P13.3: random programs, with main and without.
func TestRandomReached(t *testing.T) {
	m := newMaker(3, api.Main, "a", "b", "c", "d", "e", "f", "g")
	counts := map[int]int{}
	for range 6000 {
		var binds []api.Bind
		levels := 1 + m.Intn(3)
		for _, name := range m.names {
			if m.Intn(8) > 0 {
				binds = append(binds, bind(name, m.expr(levels)))
			}
		}
		m.Shuffle(len(binds), func(i, j int) { binds[i], binds[j] = binds[j], binds[i] })
		p := program(binds...)
		got, want := occur.Reached(p), refReached(p)
		if !slices.Equal(got, want) {
			t.Fatalf("%s: got %v, want %v", sayBinds(binds), got, want)
		}
		counts[len(want)]++
	}
	t.Log(counts)
	if len(counts) < 9 {
		t.Error(counts)
	}
}
