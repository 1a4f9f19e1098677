package classes_test

import (
	"testing"

	"teasel/api"
	"teasel/classes"
	"teasel/unify"
)

// holds says whether a pred of a type without TVars reduces to no preds.
func holds(insts []api.Inst, class string, of api.Type) bool {
	left, errno := classes.Reduce(insts, api.Pred{Class: class, Type: of})
	return errno == api.OK && len(left) == 0
}

// P8.4: a type without TVars belongs to a class if and only if the pred for
// both reduces to no preds.
func TestBelongs(t *testing.T) {
	yes, no := 0, 0
	for seed := range int64(600) {
		m := newMaker(8000+seed, "", "Eq Ord Show")
		insts := m.insts()
		for range 20 {
			class, of := m.class(), m.typeOf(4)
			want := belongs(insts, class, of)
			if got := holds(insts, class, of); got != want {
				t.Fatalf("%s %s by %s: got %v, want %v", class, say(of), sayInsts(insts), got, want)
			}
			if want {
				yes++
			} else {
				no++
			}
		}
	}
	t.Log(yes, no)
	if yes < 2000 || no < 2000 {
		t.Error("too few:", yes, no)
	}
}

// allHold says whether all preds hold with types in place of their TVars.
func allHold(insts []api.Inst, preds []api.Pred, subs []api.Sub) bool {
	for _, p := range preds {
		if !belongs(insts, p.Class, unify.Apply(p.Type, subs...)) {
			return false
		}
	}
	return true
}

// substitutions is all that put one of some types for each of the names.
func substitutions(names []string, types []api.Type) [][]api.Sub {
	all := [][]api.Sub{nil}
	for _, name := range names {
		var more [][]api.Sub
		for _, subs := range all {
			for _, of := range types {
				more = append(more, append(subs[:len(subs):len(subs)], api.Sub{Name: name, Type: of}))
			}
		}
		all = more
	}
	return all
}

// P8.4: for all types that are put for the TVars, the given preds all hold if
// and only if those that they reduce to do.
func TestSubstitutions(t *testing.T) {
	small := []api.Type{read("Int"), read("A"), read("L"), read("L Int"), read("P A"), read("[] A"), read("(,) A Int"), read("L (L A)")}
	subs := substitutions([]string{"a", "b", "m"}, small)
	yes, no, never := 0, 0, 0
	for seed := range int64(250) {
		m := newMaker(9000+seed, "a b m", "Eq Ord Show")
		insts := m.insts()
		preds := m.preds(3, 3)
		left, errno := classes.Reduce(insts, preds...)
		if errno != api.OK {
			never++
		}
		for _, s := range subs {
			want := errno == api.OK && allHold(insts, left, s)
			if got := allHold(insts, preds, s); got != want {
				t.Fatalf("%s, by %s, with %s: given ones %v, those left %v", sayPreds(preds), sayInsts(insts), saySubs(s), got, want)
			}
			if want {
				yes++
			} else {
				no++
			}
		}
	}
	t.Log(yes, no, never)
	if yes < 10000 || no < 10000 || never < 40 || never > 200 {
		t.Error("too few:", yes, no, never)
	}
}

// P8.4 for the instances that Insts returns of the Prelude.
func TestPreludeHolds(t *testing.T) {
	insts, d := classes.Insts(tree(t, api.Prelude))
	if d != (api.Diag{}) {
		t.Fatal(d)
	}
	for pred, want := range map[string]bool{
		"Eq Int": true, "Eq [] ([] Int)": true, "Eq (,) Int ([] Prim.Bool)": true, "Eq Prelude.Maybe ()": true,
		"Ord Prim.Bool": false, "Ord [] Int": true, "Ord (,) Int Int": false, "Show ()": false,
		"Show [] (Prelude.Maybe ((,) Int Prim.Bool))": true, "Show [] (Prelude.Maybe ((,) Int ()))": false,
		"Functor []": true, "Functor Prelude.Either Int": false, "Monad Prelude.Maybe": true, "Monad Prelude.Maybe Int": false,
		"Eq -> Int Int": false, "Eq (,,) Int Int Int": false, "Monad Prim.IO": true, "Eq Prim.IO Int": false,
	} {
		p := readPreds(pred)[0]
		if got := holds(insts, "Prelude."+p.Class, p.Type); got != want {
			t.Errorf("%s: got %v, want %v", pred, got, want)
		}
	}
	p := readPreds("Prelude.Eq [] ((,) a (Prelude.Maybe b)); Prelude.Ord [] c; Prelude.Monad m")
	if got, want := reduced(t, insts, p...), "Prelude.Eq a; Prelude.Eq b; Prelude.Monad m; Prelude.Ord c"; got != want {
		t.Errorf("got %s, want %s", got, want)
	}
	p = readPreds("Prelude.Show b; Prelude.Eq a; Prelude.Ord b")
	if got, want := defaulted(t, insts, p...), "a = Int; b = Int"; got != want {
		t.Errorf("got %s, want %s", got, want)
	}
	p = readPreds("Prelude.Show b; Prelude.Monad m")
	if got, want := defaulted(t, insts, p...), "ErrAmbiguous"; got != want {
		t.Errorf("got %s, want %s", got, want)
	}
}
