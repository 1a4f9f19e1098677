package unify_test

import (
	"math/rand"
	"slices"
	"strings"
	"testing"

	"teasel/api"
	"teasel/unify"
)

// A maker makes random types.
type maker struct {
	*rand.Rand
	variables, cons []string
}

func newMaker(seed int64, variables, cons string) maker {
	return maker{rand.New(rand.NewSource(seed)), strings.Fields(variables), strings.Fields(cons)}
}

// name is a TVar or TCon.
func (m maker) name() api.Type {
	if len(m.variables) > 0 && m.Intn(2) == 0 {
		return variable(m.variables[m.Intn(len(m.variables))])
	}
	return con(m.cons[m.Intn(len(m.cons))])
}

// typeOf is a type with at most so many levels.
func (m maker) typeOf(levels int) api.Type {
	if levels <= 1 || m.Intn(3) == 0 {
		return m.name()
	}
	return app(m.typeOf(levels-1), m.typeOf(levels-1))
}

// known is a type that has the texts which TCons of Prim give it, often with
// as many arguments as they take.
func (m maker) known(levels int) api.Type {
	if levels <= 1 {
		return m.name()
	}
	heads := []string{"->", "->", "[]", "(,)", "(,,)", "A", "a"}
	counts := []int{2, 2, 1, 2, 3, 1, 1}
	i := m.Intn(len(heads))
	t, count := read(heads[i]), counts[i]
	if m.Intn(4) == 0 {
		count = m.Intn(5)
	}
	for range count {
		t = app(t, m.known(levels-1-m.Intn(2)))
	}
	return t
}

// similar is a type like t, in which some parts are others.
func (m maker) similar(t api.Type) api.Type {
	switch {
	case m.Intn(6) == 0:
		return m.typeOf(2)
	case t.Kind == api.TApp:
		return app(m.similar(t.Subs[0]), m.similar(t.Subs[1]))
	}
	return t
}

func (m maker) pairs() [][2]api.Type {
	var all [][2]api.Type
	for range 1 + m.Intn(4) {
		t := m.typeOf(4)
		if m.Intn(2) == 0 {
			all = append(all, [2]api.Type{t, m.similar(t)})
		} else {
			all = append(all, [2]api.Type{t, m.typeOf(3)})
		}
	}
	return all
}

// mapping is one of all the maker's TVars.
func (m maker) mapping(levels int) mapping {
	all := mapping{}
	for _, name := range m.variables {
		all[name] = m.typeOf(levels)
	}
	return all
}

// P7.2: random pairs against a second way.
func TestRandomUnify(t *testing.T) {
	found, none := 0, 0
	for seed, names := range []string{"a b c d", "d c b a aa ab", "x", "e d c b a x.1 x.2 y z zz", ""} {
		m := newMaker(int64(70+seed), names, "A B a")
		for range 20000 {
			pairs := m.pairs()
			want := "ErrUnify"
			if solution, is := solve(pairs); is {
				want = sayAll(solution.subs())
				found++
			} else {
				none++
			}
			if got := unified(t, pairs...); got != want {
				t.Fatalf("%s:\ngot  %s\nwant %s", sayPairs(pairs), got, want)
			}
		}
	}
	t.Log(found, none)
	if found < 10000 || none < 10000 {
		t.Error("too few:", found, none)
	}
}

// P7.2: what is said of the order of pairs and of their sides holds for random
// ones: they have no influence.
func TestRandomOrder(t *testing.T) {
	m := newMaker(72, "a b c d e", "A B")
	for range 5000 {
		pairs := m.pairs()
		want := unified(t, pairs...)
		for range 4 {
			m.Shuffle(len(pairs), func(i, j int) { pairs[i], pairs[j] = pairs[j], pairs[i] })
			i := m.Intn(len(pairs))
			pairs[i][0], pairs[i][1] = pairs[i][1], pairs[i][0]
			if got := unified(t, pairs...); got != want {
				t.Fatalf("%s:\ngot  %s\nwant %s", sayPairs(pairs), got, want)
			}
		}
	}
}

// P7.3: random types against a second way.
func TestRandomMatch(t *testing.T) {
	found, none := 0, 0
	for seed, names := range []string{"a b c d", "x", "d c b a aa ab", ""} {
		m := newMaker(int64(73+seed), names, "A B a")
		for i := range 20000 {
			a := m.typeOf(4)
			b := m.similar(a)
			if i%2 == 0 {
				b = m.mapping(3).apply(a)
			}
			solution, is := solveMatch(a, b)
			want := "ErrUnify"
			if is {
				var subs []api.Sub
				for _, name := range variablesOf(a) {
					subs = append(subs, api.Sub{Name: name, Type: solution[name]})
				}
				want = sayAll(subs)
				found++
			} else {
				none++
			}
			got := matched(t, a, b)
			if got != want {
				t.Fatalf("%s, %s:\ngot  %s\nwant %s", say(a), say(b), got, want)
			}
			if i%2 == 0 && !is {
				t.Fatalf("%s, %s: there are subs", say(a), say(b))
			}
			if subs, _ := unify.Match(a, b); is && !alike(unify.Apply(a, subs...), b) {
				t.Fatalf("%s, %s: %s does not make them the same", say(a), say(b), got)
			}
		}
	}
	t.Log(found, none)
	if found < 10000 || none < 10000 {
		t.Error("too few:", found, none)
	}
}

// P7.1: random subs against a second way.
func TestRandomApply(t *testing.T) {
	m := newMaker(74, "a b c d", "A B a")
	for range 20000 {
		n := m.typeOf(5)
		all := m.mapping(3)
		var subs []api.Sub
		for name, t := range all {
			if m.Intn(3) == 0 {
				delete(all, name)
				continue
			}
			subs = append(subs, api.Sub{Name: name, Type: t})
			if m.Intn(3) == 0 {
				subs = append(subs, api.Sub{Name: name, Type: m.typeOf(2)})
			}
		}
		if got := unify.Apply(n, subs...); !alike(got, all.apply(n)) {
			t.Fatalf("%s, %s: got %s", say(n), sayAll(subs), say(got))
		}
	}
}

// P7.4: random types against a second way.
func TestRandomText(t *testing.T) {
	m := newMaker(75, "a b Prim.a", "A M.T Prim.Int Prim.() Prim.[] Prim.-> Prim.(,) Prim.(,,)")
	distinct := map[string]bool{}
	for i := range 60000 {
		n := m.known(5)
		if i%2 == 0 {
			n = m.typeOf(6)
		}
		got, want := unify.Text(n), textOf(n)
		if got != want {
			t.Fatalf("%s:\ngot  %s\nwant %s", say(n), got, want)
		}
		distinct[got] = true
	}
	if len(distinct) < 20000 {
		t.Error("too few:", len(distinct))
	}
}

// P7.1: random types of which a part may be wrong.
func TestRandomCheck(t *testing.T) {
	m := newMaker(76, "a b", "A B")
	wrong := wrongTypes()
	var names []string
	for name := range wrong {
		names = append(names, name)
	}
	slices.Sort(names)
	for range 20000 {
		parts := 0
		var grow func(levels int) api.Type
		grow = func(levels int) api.Type {
			switch {
			case m.Intn(40) == 0:
				parts++
				return wrong[names[m.Intn(len(names))]]
			case levels <= 1 || m.Intn(4) == 0:
				return m.name()
			}
			return app(grow(levels-1), grow(levels-1))
		}
		n := grow(6)
		want := api.OK
		if parts > 0 {
			want = api.ErrArg
		}
		if got := unify.Check(n); got != want {
			t.Fatalf("%v with %d wrong parts", got, parts)
		}
		if got := unify.Text(n); (got == "") != (parts > 0) {
			t.Fatalf("%q with %d wrong parts", got, parts)
		}
		if got := unify.Apply(n, api.Sub{Name: "a", Type: con("C")}); (got.Kind == 0) != (parts > 0) {
			t.Fatalf("%v with %d wrong parts", got.Kind, parts)
		}
	}
}
