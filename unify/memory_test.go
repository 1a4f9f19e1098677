package unify_test

import (
	"reflect"
	"slices"
	"testing"

	"teasel/api"
	"teasel/unify"
)

// spare marks memory beyond the length of a list.
const spare = "spare"

// roomy is a copy of a type, each list of which has more room than it needs.
func roomy(t api.Type) api.Type {
	if len(t.Subs) == 0 {
		return t
	}
	list := make([]api.Type, 0, len(t.Subs)+2)
	for _, s := range t.Subs {
		list = append(list, roomy(s))
	}
	all := list[:cap(list)]
	for i := len(list); i < len(all); i++ {
		all[i] = con(spare)
	}
	t.Subs = list
	return t
}

// whole is a type with what stands beyond the length of its lists.
func whole(t api.Type) api.Type {
	var all []api.Type
	for _, s := range t.Subs[:cap(t.Subs)] {
		all = append(all, whole(s))
	}
	t.Subs = all
	return t
}

// R2: what is handed in is left as it is, with all memory beyond the length of
// lists.
func TestUntouched(t *testing.T) {
	m := newMaker(77, "a b c d", "A B")
	for range 3000 {
		pairs := m.pairs()
		if m.Intn(4) == 0 {
			pairs[0][1] = app(pairs[0][1], api.Type{})
		}
		room := make([][2]api.Type, len(pairs), len(pairs)+1)
		subs := make([]api.Sub, len(pairs), len(pairs)+1)
		for i, p := range pairs {
			room[i] = [2]api.Type{roomy(p[0]), roomy(p[1])}
			subs[i] = api.Sub{Name: "a", Type: roomy(p[0])}
		}
		keep := func() []api.Type {
			var all []api.Type
			for _, p := range room[:cap(room)] {
				all = append(all, whole(p[0]), whole(p[1]))
			}
			for _, s := range subs[:cap(subs)] {
				all = append(all, variable(s.Name), whole(s.Type))
			}
			return all
		}
		before := keep()
		unify.Unify(room...)
		unify.Match(room[0][0], room[0][1])
		unify.Apply(room[0][0], subs...)
		unify.Check(room[0][1])
		unify.Text(room[0][1])
		if !slices.EqualFunc(before, keep(), alike) {
			t.Fatalf("%s is changed", sayPairs(pairs))
		}
	}
}

// lists tells where all lists of types are, with what they have room for.
func lists(types []api.Type, tell func(first *api.Type)) {
	for _, t := range types {
		if cap(t.Subs) > 0 {
			for i := range t.Subs[:cap(t.Subs)] {
				tell(&t.Subs[:cap(t.Subs)][i])
			}
			lists(t.Subs, tell)
		}
	}
}

// holdApart holds that the types of an answer share no memory with what was
// handed in or with each other.
func holdApart(t *testing.T, handed, answered []api.Type) {
	t.Helper()
	taken := map[*api.Type]bool{}
	lists(handed, func(first *api.Type) { taken[first] = true })
	lists(answered, func(first *api.Type) {
		if taken[first] {
			t.Fatal("an answer shares memory")
		}
		taken[first] = true
	})
}

func typesOf(subs []api.Sub) []api.Type {
	var all []api.Type
	for _, s := range subs {
		all = append(all, s.Type)
	}
	return all
}

// R2: answers share no memory with what was handed in, with each other, or
// within themselves.
func TestApart(t *testing.T) {
	m := newMaker(78, "a b c d", "A B")
	shared := read("A (B b) (B b)")
	for i := range 3000 {
		pairs := m.pairs()
		if i%2 == 0 {
			pairs = append(pairs[:1], [2]api.Type{variable("c"), shared}, [2]api.Type{variable("d"), shared})
		}
		var handed []api.Type
		for _, p := range pairs {
			handed = append(handed, p[0], p[1])
		}
		one, _ := unify.Unify(pairs...)
		two, _ := unify.Unify(pairs...)
		three, _ := unify.Match(read("a b d"), app(shared, shared, pairs[0][0]))
		four, _ := unify.Match(pairs[0][0], pairs[0][0])
		sub := api.Sub{Name: "a", Type: shared}
		answered := []api.Type{unify.Apply(pairs[0][0], sub), unify.Apply(app(variable("a"), variable("a")), sub), unify.Apply(pairs[0][1])}
		for _, subs := range [][]api.Sub{one, two, three, four} {
			answered = append(answered, typesOf(subs)...)
		}
		holdApart(t, append(handed, shared), answered)
	}
}

// R2: what is done with an answer changes no other one.
func TestAnswersAreOnesOwn(t *testing.T) {
	pairs := readPairs("a ~ A (B b); c ~ a; d ~ b; e ~ [] a")
	first, _ := unify.Unify(pairs...)
	want := sayAll(first)
	for i := range first[0].Type.Subs {
		first[0].Type.Subs[i] = con("X")
	}
	if len(first) != 4 || sayAll(first[1:]) != want[len("a = A (B b); "):] {
		t.Error(sayAll(first))
	}
	first[1] = api.Sub{}
	if got := unified(t, pairs...); got != want {
		t.Error(got)
	}
}

// R3: calls depend on no earlier ones, and types of the same make are answered
// alike.
func TestSameAgain(t *testing.T) {
	m := newMaker(79, "a b c d", "A B")
	for range 2000 {
		pairs := m.pairs()
		one, errno := unify.Unify(pairs...)
		unify.Unify(m.pairs()...)
		unify.Match(m.typeOf(3), m.typeOf(3))
		two, again := unify.Unify(pairs...)
		if errno != again || !reflect.DeepEqual(one, two) {
			t.Fatalf("%s: %s, %s", sayPairs(pairs), sayAll(one), sayAll(two))
		}
	}
}
