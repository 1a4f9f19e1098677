package classes_test

import (
	"maps"
	"math/rand"
	"slices"
	"strings"
	"testing"

	"teasel/api"
	"teasel/classes"
)

// A maker makes random instances and preds.
type maker struct {
	*rand.Rand
	variables, classes []string
	cons               map[string]int // how many arguments each mostly takes
}

func newMaker(seed int64, variables, classes string) maker {
	return maker{
		rand.New(rand.NewSource(seed)), strings.Fields(variables), strings.Fields(classes),
		map[string]int{"Prim.Int": 0, "A": 0, "Prim.A": 0, "a": 0, "L": 1, "Prim.[]": 1, "Prim.(,)": 2, "P": 2, "Q": 3},
	}
}

func (m maker) class() string {
	return m.classes[m.Intn(len(m.classes))]
}

// con is a TCon and how many arguments it mostly takes, at times another
// number.
func (m maker) con() (string, int) {
	names := slices.Sorted(maps.Keys(m.cons))
	name := names[m.Intn(len(names))]
	if m.Intn(30) == 0 {
		return name, m.Intn(4)
	}
	return name, m.cons[name]
}

// typeOf is a type with at most so many levels of arguments.
func (m maker) typeOf(levels int) api.Type {
	if len(m.variables) > 0 && (levels <= 0 || m.Intn(4) == 0) {
		t := variable(m.variables[m.Intn(len(m.variables))])
		for levels > 0 && m.Intn(3) == 0 {
			t = app(t, m.typeOf(levels-1))
		}
		return t
	}
	name, count := m.con()
	if levels <= 0 {
		count = 0
	}
	t := con(name)
	for range count {
		t = app(t, m.typeOf(levels-1))
	}
	return t
}

func (m maker) preds(most, levels int) []api.Pred {
	var all []api.Pred
	for range 1 + m.Intn(most) {
		all = append(all, api.Pred{Class: m.class(), Type: m.typeOf(levels)})
	}
	return all
}

// inst is any instance.
func (m maker) inst(class, con string, count int) api.Inst {
	i := api.Inst{Class: class, Con: con, Args: count}
	for count > 0 && m.Intn(5) < 3 {
		i.Needs = append(i.Needs, api.Need{Class: m.class(), Arg: m.Intn(count)})
	}
	return i
}

// insts has an instance of most classes and constructors, and of some more.
func (m maker) insts() []api.Inst {
	var all []api.Inst
	for _, class := range m.classes {
		for _, name := range slices.Sorted(maps.Keys(m.cons)) {
			if m.Intn(8) > 0 {
				all = append(all, m.inst(class, name, m.cons[name]))
			}
		}
	}
	m.Shuffle(len(all), func(i, j int) { all[i], all[j] = all[j], all[i] })
	for range m.Intn(8) {
		name, count := m.con()
		all = slices.Insert(all, m.Intn(len(all)+1), m.inst(m.class(), name, count))
	}
	return all
}

// answered is what Reduce answers, exactly.
func answered(insts []api.Inst, preds []api.Pred) string {
	left, errno := classes.Reduce(insts, preds...)
	if errno != api.OK {
		return errorText(errno) + sayExactly(left)
	}
	return sayExactly(left)
}

// P8.2: random preds against a second way.
func TestRandomReduce(t *testing.T) {
	wrong, none, several := 0, 0, 0
	for seed := range int64(1500) {
		variables := []string{"a b c", "m x", "a A B", "z y x w v"}[seed%4]
		m := newMaker(800+seed, variables, []string{"Eq Ord Show", "C", "B A.C AB a"}[seed%3])
		insts := m.insts()
		for range 20 {
			preds := m.preds(5, 3)
			want := reference(insts, preds)
			if got := answered(insts, preds); got != want {
				t.Fatalf("%s\nby %s:\ngot  %s\nwant %s", sayExactly(preds), sayInsts(insts), got, want)
			}
			switch {
			case want == "ErrInstance":
				wrong++
			case want == "":
				none++
			case strings.Count(want, ";") > 2:
				several++
			}
		}
	}
	t.Log(wrong, none, several)
	if wrong < 3000 || none < 3000 || several < 2000 {
		t.Error("too few:", wrong, none, several)
	}
}

// Reducing what is reduced changes nothing, nor does it matter how often preds
// are there.
func TestRandomAgain(t *testing.T) {
	for seed := range int64(300) {
		m := newMaker(3000+seed, "a b m", "Eq Ord Show")
		insts := m.insts()
		for range 10 {
			preds := m.preds(4, 3)
			left, errno := classes.Reduce(insts, preds...)
			if errno != api.OK {
				continue
			}
			want := sayExactly(left)
			for _, again := range [][]api.Pred{left, slices.Concat(left, left), slices.Concat(preds, preds), slices.Concat(preds, left)} {
				if got := answered(insts, again); got != want {
					t.Fatalf("%s\nby %s:\ngot  %s\nwant %s", sayExactly(again), sayInsts(insts), got, want)
				}
			}
		}
	}
}

// P8.3: random preds against what the promise says.
func TestRandomDefault(t *testing.T) {
	found, none := 0, 0
	for seed := range int64(1000) {
		m := newMaker(5000+seed, "c a b B a1 z", "Eq Ord Show")
		insts := m.insts()
		for range 10 {
			preds := m.preds(4, m.Intn(10)/9)
			want, names := "", []string{}
			for _, p := range preds {
				if p.Type.Kind != api.TVar || !belongs(insts, p.Class, con("Prim.Int")) {
					want = "ErrAmbiguous"
				}
				names = append(names, p.Type.Name)
			}
			if want == "" {
				found++
				slices.Sort(names)
				want = strings.Join(slices.Compact(names), " = Int; ") + " = Int"
			} else {
				none++
			}
			if got := defaulted(t, insts, preds...); got != want {
				t.Fatalf("%s\nby %s:\ngot  %s\nwant %s", sayExactly(preds), sayInsts(insts), got, want)
			}
		}
	}
	t.Log(found, none)
	if found < 1000 || none < 1000 {
		t.Error("too few:", found, none)
	}
}
