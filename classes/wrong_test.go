package classes_test

import (
	"math"
	"slices"
	"testing"

	"teasel/api"
	"teasel/classes"
)

// great is a type with that many nodes, which must be an odd number: inner,
// which is a TVar or TCon, with as many arguments as it takes.
func great(nodes int, inner api.Type) api.Type {
	for range (nodes - 1) / 2 {
		inner = app(inner, con("A"))
	}
	return inner
}

// wrongTypes are those that are no valid ones.
func wrongTypes() map[string]api.Type {
	a, b := variable("a"), con("B")
	tapp := func(name string, subs ...api.Type) api.Type {
		return api.Type{Kind: api.TApp, Name: name, Subs: subs}
	}
	endless := app(a, b)
	endless.Subs[0] = endless
	endlessArgument := app(a, b)
	endlessArgument.Subs[1] = app(b, app(a, endlessArgument))
	return map[string]api.Type{
		"zero":                  {},
		"a TVar without a Name": {Kind: api.TVar},
		"a TCon without a Name": {Kind: api.TCon},
		"a TVar with a Sub":     {Kind: api.TVar, Name: "a", Subs: []api.Type{b}},
		"a TCon with Subs":      {Kind: api.TCon, Name: "A", Subs: []api.Type{a, b}},
		"a TApp with a Name":    tapp("A", a, b),
		"a TApp without Subs":   tapp(""),
		"a TApp of one":         tapp("", a),
		"a TApp of three":       tapp("", a, b, a),
		"a PVar":                {Kind: api.PVar, Name: "a"},
		"a Kind beyond TApp":    {Kind: api.TApp + 1, Subs: []api.Type{a, b}},
		"a wrong function":      tapp("", api.Type{}, a),
		"a wrong argument":      tapp("", a, tapp("", b)),
		"further in":            app(b, app(app(a, api.Type{}), b), a),
		"in a great one":        app(great(2001, a), tapp("", b)),
		"one without an end":    endless,
		"a later one":           endlessArgument,
	}
}

// wantBoth holds that Reduce and Default answer an error, with the pred at each
// place among others.
func wantBoth(t *testing.T, name, want string, insts []api.Inst, p api.Pred, others ...api.Pred) {
	t.Helper()
	for i := range len(others) + 1 {
		preds := slices.Insert(slices.Clone(others), i, p)
		if got := reduced(t, insts, preds...); got != want {
			t.Errorf("%s, at %d: Reduce: got %q, want %q", name, i, got, want)
		}
		if got := defaulted(t, insts, preds...); got != want {
			t.Errorf("%s, at %d: Default: got %q, want %q", name, i, got, want)
		}
	}
}

// P8.2, P8.3: ErrArg for a type that is not valid, ahead of all other errors.
func TestWrongTypes(t *testing.T) {
	for name, of := range wrongTypes() {
		p := api.Pred{Class: "Eq", Type: of}
		wantBoth(t, name, "ErrArg", readInsts(chapter), p)
		wantBoth(t, name, "ErrArg", readInsts(chapter), p, readPreds("Eq a; Eq b")...)
		wantBoth(t, name, "ErrArg", readInsts(chapter), p, readPreds("Ord Int; None a b; Eq -> a b")...)
		wantBoth(t, name, "ErrArg", nil, p, api.Pred{Class: "Eq", Type: great(1001, con("A"))})
		wantBoth(t, name, "ErrArg", readInsts("Eq [] 1 Eq 1"), p)
	}
}

// P8.2, P8.3: ErrArg for a Need whose Arg is out of range, whether its instance
// is used or not, ahead of all other errors.
func TestWrongNeeds(t *testing.T) {
	big := api.Pred{Class: "Eq", Type: great(1001, variable("a"))}
	for _, text := range []string{
		"Eq [] 1 Eq 1", "Eq [] 1 Eq -1", "Eq [] 1 Eq 0 Eq 1", "Eq [] 1 Eq 1 Eq 0", "Eq Int 0 Eq 0",
		"Eq Int -1 Eq 0", "Eq Int -1 Eq -1", "Eq Int -1 Eq -2", "Eq (,) 2 Eq 0 Eq 1 Ord 2",
		chapter + "; Eq [] 1 Eq 1", "Eq [] 1 Eq 1; " + chapter, "None M.T 0 Eq 0; " + chapter,
	} {
		insts := readInsts(text)
		if got := reduced(t, insts) + " " + defaulted(t, insts); got != "ErrArg ErrArg" {
			t.Errorf("%s: got %s for no preds", text, got)
		}
		for _, preds := range []string{"Eq a", "Eq Int", "Ord Int", "Eq m a", "Eq [] ([] b)"} {
			wantBoth(t, text, "ErrArg", insts, readPreds(preds)[0])
		}
		wantBoth(t, text, "ErrArg", insts, big)
	}
	for _, arg := range []int{math.MinInt, math.MaxInt, 1 << 32, -1 << 32} {
		insts := []api.Inst{{Class: "Eq", Con: "L", Args: 1, Needs: []api.Need{{Class: "Eq", Arg: arg}}}}
		wantBoth(t, "a great Arg", "ErrArg", insts, readPreds("Eq a")[0])
	}
	// Those that are in range do no harm, however great they are.
	insts := []api.Inst{{Class: "Eq", Con: "L", Args: math.MaxInt, Needs: []api.Need{{Class: "Eq", Arg: math.MaxInt - 1}}}, {Args: math.MinInt}}
	if got := reduced(t, insts, readPreds("Eq a")...); got != "Eq a" {
		t.Error(got)
	}
}

// P8.2, P8.3: ErrBig for a type with more than 1000 nodes, ahead of ErrInstance
// and ErrAmbiguous.
func TestTooBig(t *testing.T) {
	for _, inner := range []api.Type{variable("a"), con("B")} {
		p := api.Pred{Class: "Eq", Type: great(1001, inner)}
		wantBoth(t, "a type of 1001 nodes", "ErrBig", readInsts(chapter), p)
		wantBoth(t, "a type of 1001 nodes", "ErrBig", readInsts(chapter), p, readPreds("Eq -> a b; Ord Int; None m a; Eq a")...)
	}
	m, b := api.Pred{Class: "Eq", Type: great(999, variable("m"))}, api.Pred{Class: "Eq", Type: great(999, con("B"))}
	left, errno := classes.Reduce(nil, m)
	if errno != api.OK || len(left) != 1 || !alike(left[0].Type, m.Type) {
		t.Error("a type of 999 nodes:", errno)
	}
	if got := reduced(t, nil, m, b); got != "ErrInstance" {
		t.Error("a type of 999 nodes:", got)
	}
	if got := reduced(t, []api.Inst{{Class: "Eq", Con: "B", Args: 499}}, b); got != "" {
		t.Error("a type of 999 nodes:", got)
	}
	if got := defaulted(t, readInsts(chapter), m); got != "ErrAmbiguous" {
		t.Error("a type of 999 nodes:", got)
	}
}

// P8.2: ErrInstance wherever reduction arrives at an unsatisfiable pred.
func TestUnsatisfiable(t *testing.T) {
	insts := chapter + "; Ord [] 1 Ord 0; Ord (,) 2 Eq 0 Ord 1; Eq -> 1; Eq M.T 1; Show [] 0; Show [] 2"
	for _, preds := range []string{
		"Ord Int", "None Int", "Eq Prim.Bool", "Eq []", "Eq [] a b", "Eq (,) a", "Eq (,) a b c", "Eq Int a",
		"Eq -> a b", "Eq M.T", "Eq M.U a", "Show [] a", "Ord [] Int", "Ord [] ([] ([] Int))",
		"Eq (,) a ([] ([] Prim.Bool))", "Eq (,) (-> a b) a", "Ord (,) Int Int", "Ord (,) (-> a b) b",
		"Eq [] ((,) a ([] ((,) Int (M.T a b))))", "Eq (,) ((,) a b) ((,) ((,) c Int) ((,) []  d))",
	} {
		wantReduced(t, insts, preds, "ErrInstance")
		wantReduced(t, insts, "Eq a; "+preds+"; Eq m a", "ErrInstance")
		wantReduced(t, insts, preds+"; Eq [] a; "+preds, "ErrInstance")
	}
	// What is not required is not asked for.
	wantReduced(t, insts, "Ord (,) Int a; Ord m Int; Eq m (-> a b); Eq M.T (-> a b)", "Eq m (-> a b); Ord a; Ord m Int")
}
