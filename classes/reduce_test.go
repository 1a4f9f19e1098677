package classes_test

import (
	"slices"
	"testing"

	"teasel/api"
	"teasel/classes"
)

// The chapter's examples.
func TestReduceExamples(t *testing.T) {
	wantReduced(t, chapter, "Eq [] ((,) a Int); Eq m b; Eq [] a", "Eq a; Eq m b")
	wantReduced(t, chapter, "Eq -> Int a", "ErrInstance")
	wantReduced(t, chapter, "Ord Int", "ErrInstance")
}

// P8.2: what preds reduce to.
func TestReduce(t *testing.T) {
	insts := chapter + "; Ord Int 0; Ord [] 1 Ord 0 Eq 0; Ord (,) 2 Eq 0 Ord 1; " +
		"Show -> 2; Show M.T 3 Eq 2; Functor [] 0; Functor -> 1; Functor M.T 2 Functor 1 Eq 0; Eq M.Fix 1 Functor 0"
	for preds, want := range map[string]string{
		"":                           "",
		"Eq a":                       "Eq a",
		"None a":                     "None a",
		"None m a":                   "None m a",
		"Eq Int":                     "",
		"Eq [] Int":                  "",
		"Eq [] a":                    "Eq a",
		"Eq [] ([] ([] a))":          "Eq a",
		"Eq [] (m a)":                "Eq m a",
		"Eq m ([] a)":                "Eq m ([] a)",
		"Eq m Int Int":               "Eq m Int Int",
		"Eq (,) a b":                 "Eq a; Eq b",
		"Eq (,) a a":                 "Eq a",
		"Eq (,) a Int":               "Eq a",
		"Eq (,) ([] a) ((,) b a)":    "Eq a; Eq b",
		"Ord [] a":                   "Eq a; Ord a",
		"Ord [] ([] a)":              "Eq a; Ord a",
		"Ord (,) a b":                "Eq a; Ord b",
		"Ord (,) ([] a) ([] b)":      "Eq a; Eq b; Ord b",
		"Ord a; Ord [] a":            "Eq a; Ord a",
		"Eq a; Eq a":                 "Eq a",
		"Eq a; Ord a; Eq a; Ord a":   "Eq a; Ord a",
		"Eq [] a; Eq a; Eq [] a":     "Eq a",
		"Eq m a; Eq m a; Eq m b":     "Eq m a; Eq m b",
		"Show -> a b":                "",
		"Show -> None (None a)":      "",
		"Show M.T None None ([] a)":  "Eq a",
		"Functor []":                 "",
		"Functor m":                  "Functor m",
		"Functor m a":                "Functor m a",
		"Functor -> a":               "",
		"Functor M.T a []":           "Eq a",
		"Functor M.T ([] a) f":       "Eq a; Functor f",
		"Functor M.T a (M.T b f)":    "Eq a; Eq b; Functor f",
		"Eq M.Fix (M.T a (M.T a m))": "Eq a; Functor m",
		"Eq M.Fix (m a)":             "Functor m a",
	} {
		wantReduced(t, insts, preds, want)
	}
}

// P8.2: TVars and TCons are told apart, by their Kind and not by their Name,
// and a TCon only by its whole Name.
func TestHeads(t *testing.T) {
	insts := []api.Inst{{Class: "C", Con: "a", Args: 1, Needs: []api.Need{{Class: "C"}}}, {Class: "C", Con: "a"}}
	named := func(kind int) api.Type { return api.Type{Kind: kind, Name: "a"} }
	for _, test := range []struct {
		of   api.Type
		want string
	}{
		{named(api.TVar), "C a"},
		{named(api.TCon), ""},
		{app(named(api.TVar), named(api.TVar)), "C a a"},
		{app(named(api.TVar), named(api.TCon)), "C a a"},
		{app(named(api.TCon), named(api.TCon)), ""},
		{app(named(api.TCon), named(api.TVar)), "C a"},
		{app(named(api.TCon), app(named(api.TCon), named(api.TVar))), "C a"},
	} {
		if got := reduced(t, insts, api.Pred{Class: "C", Type: test.of}); got != test.want {
			t.Errorf("%+v: got %q, want %q", test.of, got, test.want)
		}
	}
	wantReduced(t, "C Int 0; C A 0", "C Prim.Int; C A", "")
	wantReduced(t, "C Int 0; C A 0", "C M.Int", "ErrInstance")
	wantReduced(t, "C Int 0; C A 0", "C Prim.A", "ErrInstance")
	wantReduced(t, "C M.A 0", "C A", "ErrInstance")
	wantReduced(t, "M.C A 0", "C A", "ErrInstance")
	wantReduced(t, "C A 0", "M.C A", "ErrInstance")
}

// P8.2: of several instances the first counts whose Class, Con and Args fit.
func TestFirstInstance(t *testing.T) {
	insts := "Eq L 2 Bad 1; Eq L 1 Good 0; Eq L 1 Bad 0; Eq L 0; Ord L 1 Bad 0; Eq K 1 Bad 0; Eq L 2; Eq L 1"
	wantReduced(t, insts, "Eq L a", "Good a")
	wantReduced(t, insts, "Eq L a b", "Bad b")
	wantReduced(t, insts, "Eq L", "")
	wantReduced(t, insts, "Eq L a b c", "ErrInstance")
	wantReduced(t, insts, "Ord L", "ErrInstance")
	wantReduced(t, insts, "Eq K", "ErrInstance")
	wantReduced(t, insts, "Eq K a", "Bad a")
	// The first one counts, even if it leads nowhere and a later one does not.
	wantReduced(t, "Eq L 1 Bad 0; Eq L 1", "Eq L Int", "ErrInstance")
	wantReduced(t, "Eq L 1; Eq L 1 Bad 0", "Eq L Int", "")
	// Args that no type has fit none.
	wantReduced(t, "Eq L -1", "Eq L", "ErrInstance")
	wantReduced(t, "Eq L -1; Eq L 1000000000000", "Eq L a", "ErrInstance")
}

// P8.2: Classes and Names may be any, those of an instance empty ones too.
func TestAnyNames(t *testing.T) {
	wantReduced(t, "", "", "")
	insts := []api.Inst{{Class: "", Con: "A", Args: 1, Needs: []api.Need{{Class: "\xff"}, {Class: ""}}}, {}}
	left, errno := classes.Reduce(insts, api.Pred{Type: read("A b")})
	if errno != api.OK || len(left) != 2 || left[0].Class != "" || left[1].Class != "\xff" {
		t.Error(left, errno)
	}
}

// P8.2: a Need may be there several times, and several Needs may be of one
// argument, or none of them of some.
func TestNeeds(t *testing.T) {
	insts := "C P 3 D 2 D 0 D 2 C 0 D 0; D P 3; C Int 0"
	wantReduced(t, insts, "C P a b c", "C a; D a; D c")
	wantReduced(t, insts, "C P (P a b c) None (P d e f)", "C a; D a; D c")
	wantReduced(t, insts, "C P Int b c", "ErrInstance")
}

// P8.2: Classes are in increasing order, bytewise; with the same Class, texts.
func TestReducedOrder(t *testing.T) {
	for preds, want := range map[string]string{
		"B a; A a":                "A a; B a",
		"B a; A b; B b; A a":      "A a; A b; B a; B b",
		"C z; Eq b; Eq a; A.B c":  "A.B c; C z; Eq a; Eq b",
		"a z; B z; AB z; A z":     "A z; AB z; B z; a z",
		"A.C x; A x; A.B x; AB x": "A x; A.B x; A.C x; AB x",
		"C b; C a; C a1; C c":     "C a; C a1; C b; C c",
		// The text of a list and a tuple begins with a bracket, that of an
		// argument that is an application with a parenthesis.
		"C m z; C m ([] z); C m (n z); C m ((,) z z); C m": "C m; C m (n z); C m ((,) z z); C m ([] z); C m z",
		// An arrow's is in parentheses.
		"C m (-> a b); C m ([] a); C m Int; C m z":    "C m (-> a b); C m Int; C m ([] a); C m z",
		"C m B; C m Int; C m a; C m Prim.Bool":        "C m B; C m Bool; C m Int; C m a",
		"C n a; C m b; C mm; C m":                     "C m; C m b; C mm; C n a",
		"C m z a; C m a z; C m (a z); C m (z a)":      "C m (a z); C m (z a); C m a z; C m z a",
		"C b; C a; D a; D b; C a; B c; D b; B c; B b": "B b; B c; C a; C b; D a; D b",
	} {
		wantReduced(t, "", preds, want)
	}
	// The classes and types that others are reached from do not matter.
	wantReduced(t, "Z L 1 A 0; A L 1 Z 0", "A L c; Z L b; A a", "A a; A b; Z c")
	wantReduced(t, "C P 2 C 1 C 0", "C P a b", "C a; C b")
	wantReduced(t, "C P 2 C 1 C 0", "C P (P d c) (P b a)", "C a; C b; C c; C d")
}

// tag makes types whose texts are alike different: those in which m is applied
// to a TVar, a TCon, and a TCon of Prim.
func tag(names ...string) []api.Type {
	var all []api.Type
	for _, n := range names {
		argument := con("x")
		switch n {
		case "v":
			argument = variable("x")
		case "p":
			argument = con("Prim.x")
		}
		all = append(all, app(variable("m"), argument))
	}
	return all
}

// tags is the kinds of such types, in their order.
func tags(preds []api.Pred) string {
	text := ""
	for _, p := range preds {
		argument := p.Type.Subs[1]
		switch {
		case argument.Kind == api.TVar:
			text += "v"
		case argument.Name == "x":
			text += "c"
		default:
			text += "p"
		}
	}
	return text
}

// P8.2: preds with the same text, but other types, come as they were reached.
func TestReachedOrder(t *testing.T) {
	pair := func(a, b api.Type) api.Type { return app(con("P"), a, b) }
	forth := readInsts("C P 2 C 0 C 1; C L 1 C 0 D 0; D L 1; D P 2")
	back := readInsts("C P 2 C 1 C 0; C L 1 D 0 C 0; D L 1; D P 2")
	for _, test := range []struct {
		types      []api.Type
		want, back string
	}{
		{tag("v", "c", "p"), "vcp", "vcp"},
		{tag("p", "c", "v"), "pcv", "pcv"},
		{tag("c", "v", "c", "p", "v"), "cvp", "cvp"},
		{[]api.Type{pair(tag("p")[0], tag("v")[0]), tag("c")[0]}, "pvc", "vpc"},
		{[]api.Type{tag("v")[0], pair(tag("p")[0], tag("v")[0]), tag("c")[0]}, "vpc", "vpc"},
		{[]api.Type{pair(tag("p")[0], pair(tag("c")[0], tag("v")[0]))}, "pcv", "vcp"},
		{[]api.Type{pair(pair(tag("p")[0], tag("c")[0]), tag("v")[0])}, "pcv", "vcp"},
		{[]api.Type{pair(pair(tag("c")[0], tag("p")[0]), tag("p")[0]), tag("v")[0]}, "cpv", "pcv"},
		{[]api.Type{pair(tag("c")[0], app(con("L"), pair(tag("v")[0], tag("c")[0]))), tag("p")[0]}, "cvp", "cvp"},
	} {
		var preds []api.Pred
		for _, of := range test.types {
			preds = append(preds, api.Pred{Class: "C", Type: of})
		}
		for i, insts := range [][]api.Inst{forth, back} {
			left, errno := classes.Reduce(insts, preds...)
			want := []string{test.want, test.back}[i]
			if got := tags(left); errno != api.OK || got != want {
				t.Errorf("%s: got %s %v, want %s", sayPreds(preds), got, errno, want)
			}
		}
	}
}

// With the same text, a Class goes ahead of how preds were reached.
func TestReachedOrderOfClasses(t *testing.T) {
	types := tag("v", "c", "p")
	var preds []api.Pred
	for _, class := range []string{"D", "C", "E"} {
		for _, of := range types {
			preds = append(preds, api.Pred{Class: class, Type: of})
		}
		slices.Reverse(types)
	}
	left, errno := classes.Reduce(nil, preds...)
	want := "C m x; C m x; C m x; D m x; D m x; D m x; E m x; E m x; E m x"
	if errno != api.OK || sayPreds(left) != want || tags(left) != "pcv"+"vcp"+"vcp" {
		t.Error(sayPreds(left), tags(left), errno)
	}
}

// Very many types that have one of three texts.
func TestReachedOrderOfMany(t *testing.T) {
	heads := []string{"m", "n", "o"}
	var types []api.Type
	for _, head := range heads {
		types = append(types, variable(head))
	}
	for range 4 {
		var more []api.Type
		for _, of := range types {
			for _, argument := range []api.Type{variable("x"), con("x"), con("Prim.x")} {
				more = append(more, app(of, argument))
			}
		}
		types = more
	}
	m := newMaker(808, "", "")
	for range 10 {
		m.Shuffle(len(types), func(i, j int) { types[i], types[j] = types[j], types[i] })
		var preds, want []api.Pred
		for i, of := range types {
			preds = append(preds, api.Pred{Class: "C", Type: of}, api.Pred{Class: "C", Type: types[i/2]})
		}
		for _, head := range heads {
			for _, of := range types {
				if start, _ := headOf(of); start.Name == head {
					want = append(want, api.Pred{Class: "C", Type: of})
				}
			}
		}
		if got := answered(nil, preds); got != sayExactly(want) {
			t.Fatalf("got  %s\nwant %s", got, sayExactly(want))
		}
	}
}

// A TVar may be named like a TCon of Prim, whose text it then has not.
func TestOddNames(t *testing.T) {
	arrow := app(variable("Prim.->"), variable("b"), variable("a"))
	list := app(variable("Prim.[]"), variable("a"))
	var preds []api.Pred
	for _, of := range []api.Type{list, variable("Prim.z"), arrow, variable("A")} {
		preds = append(preds, api.Pred{Class: "C", Type: of})
	}
	left, errno := classes.Reduce(nil, preds...)
	if errno != api.OK || len(left) != 4 {
		t.Fatal(left, errno)
	}
	for i, want := range []api.Type{variable("A"), arrow, list, variable("Prim.z")} {
		if !alike(left[i].Type, want) {
			t.Errorf("at %d: got %s, want %s", i, say(left[i].Type), say(want))
		}
	}
}
