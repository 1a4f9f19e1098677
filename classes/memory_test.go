package classes_test

import (
	"reflect"
	"slices"
	"testing"

	"teasel/api"
	"teasel/classes"
)

// spare marks memory beyond the length of a list.
const spare = "spare"

// roomy is a copy of a list with more room than it needs.
func roomy[T any](list []T, mark T) []T {
	all := append(make([]T, 0, len(list)+2), list...)
	rest := all[len(all):cap(all)]
	for i := range rest {
		rest[i] = mark
	}
	return all
}

// roomyType is a copy of a type, each list of which is roomy.
func roomyType(t api.Type) api.Type {
	if len(t.Subs) > 0 {
		t.Subs = roomy(t.Subs, con(spare))
		for i, s := range t.Subs {
			t.Subs[i] = roomyType(s)
		}
	}
	return t
}

func roomyPreds(preds []api.Pred) []api.Pred {
	all := roomy(preds, api.Pred{Class: spare, Type: con(spare)})
	for i := range all {
		all[i].Type = roomyType(all[i].Type)
	}
	return all
}

func roomyInsts(insts []api.Inst) []api.Inst {
	all := roomy(insts, api.Inst{Class: spare})
	for i := range all {
		all[i].Needs = roomy(all[i].Needs, api.Need{Class: spare})
	}
	return all
}

func roomyNode(n api.Node) api.Node {
	n.Subs = roomy(n.Subs, api.Node{Name: spare})
	for i, s := range n.Subs {
		n.Subs[i] = roomyNode(s)
	}
	return n
}

// wholeType is a type with what stands beyond the length of its lists.
func wholeType(t api.Type) api.Type {
	var all []api.Type
	for _, s := range t.Subs[:cap(t.Subs)] {
		all = append(all, wholeType(s))
	}
	t.Subs = all
	return t
}

func wholePreds(preds []api.Pred) []api.Pred {
	all := slices.Clone(preds[:cap(preds)])
	for i := range all {
		all[i].Type = wholeType(all[i].Type)
	}
	return all
}

func wholeInsts(insts []api.Inst) []api.Inst {
	all := slices.Clone(insts[:cap(insts)])
	for i := range all {
		all[i].Needs = slices.Clone(all[i].Needs[:cap(all[i].Needs)])
	}
	return all
}

func wholeNode(n api.Node) api.Node {
	n.Subs = slices.Clone(n.Subs[:cap(n.Subs)])
	for i, s := range n.Subs {
		n.Subs[i] = wholeNode(s)
	}
	return n
}

// R2: instances and preds are left as they are, with all memory beyond the
// length of lists.
func TestUntouched(t *testing.T) {
	for seed := range int64(200) {
		m := newMaker(seed, "b a m", "Show Eq Ord")
		insts := roomyInsts(m.insts())
		if seed%10 == 0 {
			insts[0].Needs = append(insts[0].Needs, api.Need{Class: "Eq", Arg: -1})
		}
		for range 10 {
			preds := roomyPreds(m.preds(6, 3*m.Intn(2)))
			beforeInsts, beforePreds := wholeInsts(insts), wholePreds(preds)
			classes.Reduce(insts, preds...)
			classes.Default(insts, preds...)
			if !reflect.DeepEqual(beforeInsts, wholeInsts(insts)) || !reflect.DeepEqual(beforePreds, wholePreds(preds)) {
				t.Fatalf("%s or %s is changed", sayInsts(insts), sayPreds(preds))
			}
		}
	}
}

// R2: trees are left as they are.
func TestTreesUntouched(t *testing.T) {
	for _, declarations := range []string{
		"instance (C b, C a, C b) => C (a, b)\ninstance C [a]\n", "instance C N\ninstance C N\n", "instance C N\ninstance C IO\n",
	} {
		mods := roomy(trees(t, some+declarations, api.Prelude), api.Node{Name: spare})
		for i := range mods {
			mods[i] = roomyNode(mods[i])
		}
		before := wholeNode(api.Node{Subs: mods})
		first, d := classes.Insts(mods...)
		if !reflect.DeepEqual(before, wholeNode(api.Node{Subs: mods})) {
			t.Errorf("%q: a tree is changed", declarations)
		}
		second, e := classes.Insts(mods...)
		if !reflect.DeepEqual(first, second) || d != e {
			t.Errorf("%q: another answer the second time", declarations)
		}
	}
}

// lists tells where all that lists of types have room for is.
func lists(types []api.Type, tell func(at *api.Type)) {
	for _, t := range types {
		all := t.Subs[:cap(t.Subs)]
		for i := range all {
			tell(&all[i])
		}
		lists(t.Subs, tell)
	}
}

func typesOf(preds []api.Pred) []api.Type {
	var all []api.Type
	for _, p := range preds {
		all = append(all, p.Type)
	}
	return all
}

// holdApart holds that answers share no memory with what was handed in, with
// each other or within themselves.
func holdApart(t *testing.T, handed []api.Pred, answers ...[]api.Pred) {
	t.Helper()
	taken := map[*api.Type]bool{}
	lists(typesOf(handed), func(at *api.Type) { taken[at] = true })
	for _, preds := range answers {
		lists(typesOf(preds), func(at *api.Type) {
			if taken[at] {
				t.Fatalf("%s shares memory", sayPreds(preds))
			}
			taken[at] = true
		})
	}
}

// R2: the types of what Reduce answers are no part of what was handed in, nor
// of each other: even if several classes have the same type, or one type a part
// twice.
func TestApart(t *testing.T) {
	insts := readInsts("Eq L 1 Eq 0 Ord 0 Show 0; Eq P 2 Eq 1 Eq 0 Ord 1")
	part := read("A b c")
	shared := app(variable("m"), part, part)
	for _, of := range []api.Type{shared, app(con("L"), shared), app(con("P"), shared, app(shared, shared))} {
		preds := []api.Pred{{Class: "Eq", Type: of}, {Class: "Eq", Type: shared}, {Class: "Z", Type: app(shared, part)}}
		first, errno := classes.Reduce(insts, preds...)
		second, _ := classes.Reduce(insts, preds...)
		if errno != api.OK || len(first) < 2 || !reflect.DeepEqual(first, second) {
			t.Fatal(sayPreds(first), sayPreds(second), errno)
		}
		holdApart(t, preds, first, second)
	}
	for seed := range int64(500) {
		m := newMaker(seed, "b a m", "Show Eq Ord")
		preds := m.preds(6, 3)
		first, _ := classes.Reduce(m.insts(), preds...)
		second, _ := classes.Reduce(nil, first...)
		holdApart(t, preds, first, second)
	}
}

// R2: the Needs of instances can be appended to without a change of others.
func TestNeedsApart(t *testing.T) {
	mods := trees(t, some+"instance (C a, C b) => C (U a b c d)\ninstance (D a, C b, D c) => D (U a b c d)\ninstance (C a, C b, C c, C d, E a) => E (U a b c d)\n")
	first, _ := classes.Insts(mods...)
	second, _ := classes.Insts(mods...)
	want := sayInsts(first)
	for i := range first {
		before := sayInsts(first[i : i+1])
		for j := range first {
			if i != j {
				_ = append(first[j].Needs, api.Need{Class: spare}, api.Need{Class: spare})
				clear(first[j].Needs[:cap(first[j].Needs)])
			}
		}
		if got := sayInsts(first[i : i+1]); got != before {
			t.Errorf("got %s, want %s", got, before)
		}
		first, _ = classes.Insts(mods...)
	}
	if got := sayInsts(second); got != want {
		t.Errorf("got %s, want %s", got, want)
	}
}

// R3: an answer depends on nothing but what is handed in, and nothing of an
// answer is kept.
func TestNothingKept(t *testing.T) {
	for seed := range int64(100) {
		m := newMaker(seed, "b a m", "Show Eq Ord")
		insts, preds := m.insts(), m.preds(6, 3)
		want := answered(insts, preds)
		left, _ := classes.Reduce(insts, preds...)
		for i := range left {
			left[i].Type.Kind, left[i].Type.Name = 0, spare
			clear(left[i].Type.Subs)
		}
		classes.Reduce(nil, preds...)
		classes.Default(insts, readPreds("Eq a")...)
		if got := answered(insts, preds); got != want {
			t.Fatalf("got %s, want %s", got, want)
		}
	}
	preds := readPreds("Eq b; Eq a")
	first, _ := classes.Default(readInsts(chapter), preds...)
	second, _ := classes.Default(readInsts(chapter), preds...)
	first[0].Type.Name, first[0].Name = spare, spare
	if first[1].Type.Name != "Prim.Int" || saySubs(second) != "a = Int; b = Int" {
		t.Error(first, second)
	}
}
