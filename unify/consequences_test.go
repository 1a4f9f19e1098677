package unify_test

import (
	"testing"

	"teasel/api"
	"teasel/unify"
)

// holdGeneral holds what P7.5 says of subs that unify pairs: that they come
// from those that Unify answers.
func holdGeneral(t *testing.T, pairs [][2]api.Type, answer []api.Sub, subs []api.Sub) {
	t.Helper()
	most := mappingOf(answer)
	for _, p := range pairs {
		for _, name := range variablesOf(p[0], p[1]) {
			v := variable(name)
			if !alike(unify.Apply(v, subs...), unify.Apply(most.apply(v), subs...)) {
				t.Fatalf("%s:\n%s is less general than %s", sayPairs(pairs), sayAll(answer), sayAll(subs))
			}
		}
	}
}

// holdUnified holds what is said of the subs that Unify answers, themselves.
func holdUnified(t *testing.T, pairs [][2]api.Type, answer []api.Sub) {
	t.Helper()
	for _, p := range pairs {
		if a, b := unify.Apply(p[0], answer...), unify.Apply(p[1], answer...); !alike(a, b) {
			t.Fatalf("%s:\n%s gives %s and %s", sayPairs(pairs), sayAll(answer), say(a), say(b))
		}
	}
	named := map[string]bool{}
	for i, s := range answer {
		if i > 0 && answer[i-1].Name >= s.Name || alike(s.Type, variable(s.Name)) {
			t.Fatalf("%s:\n%s", sayPairs(pairs), sayAll(answer))
		}
		named[s.Name] = true
	}
	for _, s := range answer {
		for _, name := range variablesOf(s.Type) {
			if named[name] || s.Type.Kind == api.TVar && name > s.Name {
				t.Fatalf("%s:\n%s", sayPairs(pairs), sayAll(answer))
			}
		}
	}
}

// P7.5: what Unify answers unifies the pairs, and every other mapping that
// does comes from it.
func TestMostGeneral(t *testing.T) {
	m := newMaker(750, "a b c d", "A B")
	found, others := 0, 0
	for range 20000 {
		pairs := m.pairs()
		answer, errno := unify.Unify(pairs...)
		if errno != api.OK {
			continue
		}
		found++
		holdUnified(t, pairs, answer)
		// Whatever is put for the TVars that are left unifies the pairs as well.
		further := m.mapping(3)
		subs := further.subs()
		for _, s := range answer {
			further[s.Name] = further.apply(s.Type)
		}
		if !further.unifies(pairs) {
			t.Fatalf("%s: %s, %s", sayPairs(pairs), sayAll(answer), sayAll(subs))
		}
		holdGeneral(t, pairs, answer, further.subs())
		if other := m.mapping(1); other.unifies(pairs) {
			others++
			holdGeneral(t, pairs, answer, other.subs())
		}
	}
	t.Log(found, others)
	if found < 2000 || others < 20 {
		t.Error("too few:", found, others)
	}
}

// eachMapping tells all ways to map TVars to types, until one is taken.
func eachMapping(names []string, to []api.Type, m mapping, take func()) {
	if len(names) == 0 {
		take()
		return
	}
	for _, t := range to {
		m[names[0]] = t
		eachMapping(names[1:], to, m, take)
	}
}

// P7.2, P7.5: pairs with ErrUnify have no mapping that unifies them, and that
// of the others is most general, among all mappings to small types.
func TestAllMappings(t *testing.T) {
	m := newMaker(751, "a b c", "A B")
	var small []api.Type
	for _, text := range []string{"a", "b", "c", "A", "B"} {
		small = append(small, read(text))
	}
	for _, f := range small[:5] {
		for _, x := range small[:5] {
			small = append(small, app(f, x))
		}
	}
	none, one, several := 0, 0, 0
	for range 400 {
		var pairs [][2]api.Type
		var types []api.Type
		for range 1 + m.Intn(2) {
			n := m.typeOf(3)
			pairs = append(pairs, [2]api.Type{n, m.similar(n)})
			types = append(types, pairs[len(pairs)-1][:]...)
		}
		answer, errno := unify.Unify(pairs...)
		count, s := 0, mapping{}
		eachMapping(variablesOf(types...), small, s, func() {
			if !s.unifies(pairs) {
				return
			}
			count++
			if errno != api.OK {
				t.Fatalf("%s: %v, but there is %s", sayPairs(pairs), errno, sayAll(s.subs()))
			}
			holdGeneral(t, pairs, answer, s.subs())
		})
		switch {
		case count == 0:
			none++
		case count == 1:
			one++
		default:
			several++
		}
	}
	t.Log(none, one, several)
	if none < 50 || one < 20 || several < 50 {
		t.Error("too few:", none, one, several)
	}
}
