package classes_test

import (
	"slices"
	"strconv"
	"strings"
	"testing"

	"teasel/api"
	"teasel/classes"
)

// within is a type within so many lists of L.
func within(levels int, inner api.Type) api.Type {
	for range levels {
		inner = app(con("L"), inner)
	}
	return inner
}

// numbered is many texts: a letter, and a number of five figures.
func numbered(letter string, count int) []string {
	all := make([]string, count)
	for i := range all {
		all[i] = letter + strconv.Itoa(100000 + i)[1:]
	}
	return all
}

// What is required several times, at each of many levels, is reduced once.
func TestRequiredOften(t *testing.T) {
	twice := "Eq L 1 Eq 0 Eq 0; Eq P 2 Eq 0 Eq 1 Eq 0 Eq 1"
	eq := func(of api.Type) api.Pred { return api.Pred{Class: "Eq", Type: of} }
	if got := reduced(t, readInsts(twice), eq(within(490, variable("a")))); got != "Eq a" {
		t.Error(got)
	}
	if got := reduced(t, readInsts(twice), eq(within(490, con("A")))); got != "ErrInstance" {
		t.Error(got)
	}
	pair := variable("a")
	for range 8 {
		pair = app(con("P"), pair, pair)
	}
	if got := reduced(t, readInsts(twice), eq(pair), eq(pair)); got != "ErrBig" {
		t.Error(got)
	}
	if got := reduced(t, readInsts(twice), eq(pair.Subs[1]), eq(pair.Subs[1].Subs[1])); got != "Eq a" {
		t.Error(got)
	}
	each := readInsts("Eq L 1 Ord 0 Show 0 Eq 0; Ord L 1 Show 0 Eq 0 Ord 0; Show L 1 Eq 0 Ord 0 Show 0; Eq A 0; Ord A 0; Show A 0")
	if got := reduced(t, each, eq(within(490, variable("a")))); got != "Eq a; Ord a; Show a" {
		t.Error(got)
	}
	if got := reduced(t, each, eq(within(490, con("A")))); got != "" {
		t.Error(got)
	}
}

// An instance with very many Needs, and as many classes that require each
// other.
func TestManyNeeds(t *testing.T) {
	inst := api.Inst{Class: "Eq", Con: "L", Args: 1}
	for range 200000 {
		inst.Needs = append(inst.Needs, api.Need{Class: "Eq"})
	}
	if got := reduced(t, []api.Inst{inst}, api.Pred{Class: "Eq", Type: within(490, variable("a"))}); got != "Eq a" {
		t.Error(got)
	}
	names := numbered("C", 100)
	var insts []api.Inst
	var want []string
	for _, class := range names {
		i := api.Inst{Class: class, Con: "L", Args: 1}
		for _, other := range names {
			i.Needs = append(i.Needs, api.Need{Class: other})
		}
		insts = append(insts, i)
		want = append(want, class+" a")
	}
	if got := reduced(t, insts, api.Pred{Class: names[7], Type: within(300, variable("a"))}); got != strings.Join(want, "; ") {
		t.Error(got)
	}
	// An argument that is far to the right.
	wide := api.Inst{Class: "Eq", Con: "W", Args: 400, Needs: []api.Need{{Class: "Eq", Arg: 399}, {Class: "Eq", Arg: 0}}}
	of := con("W")
	for _, name := range numbered("v", 400) {
		of = app(of, variable(name))
	}
	if got := reduced(t, []api.Inst{wide}, api.Pred{Class: "Eq", Type: of}); got != "Eq v00000; Eq v00399" {
		t.Error(got)
	}
}

// Very many preds and instances.
func TestManyPreds(t *testing.T) {
	const count = 60000
	names := numbered("a", 9000)
	var preds, backwards []api.Pred
	for i := range count {
		preds = append(preds, api.Pred{Class: "Eq", Type: within(i/len(names), variable(names[i%len(names)]))})
	}
	backwards = slices.Clone(preds)
	slices.Reverse(backwards)
	var want []string
	for _, name := range names {
		want = append(want, "Eq "+name)
	}
	insts := []api.Inst{}
	for _, name := range numbered("T", 9000) {
		for args := range 5 {
			insts = append(insts, api.Inst{Class: "Eq", Con: name, Args: args}, api.Inst{Class: "Eq", Con: name, Args: args})
		}
	}
	insts = append(insts, readInsts("Eq L 1 Eq 0; Eq Int 0")...)
	for _, all := range [][]api.Pred{preds, backwards} {
		if got := reduced(t, insts, all...); got != strings.Join(want, "; ") {
			t.Errorf("got %.200s", got)
		}
	}
	for i := range preds {
		preds[i].Type = variable(names[(7*i)%len(names)])
	}
	if got := defaulted(t, insts, preds...); got != strings.Join(names, " = Int; ")+" = Int" {
		t.Errorf("got %.200s", got)
	}
}

// Types that share memory: very many with the same great part, and those that
// would have no room if they did not share it.
func TestSharedTypes(t *testing.T) {
	inner := within(490, variable("a"))
	var preds, others []api.Pred
	for range 200000 {
		preds = append(preds, api.Pred{Class: "Eq", Type: inner})
		others = append(others, api.Pred{Class: "Eq", Type: app(con("L"), inner)})
	}
	insts := readInsts("Eq L 1 Eq 0")
	if got := reduced(t, insts, preds...); got != "Eq a" {
		t.Errorf("got %.200s", got)
	}
	if got := reduced(t, insts, others...); got != "Eq a" {
		t.Errorf("got %.200s", got)
	}
	vast := variable("a")
	for range 200 {
		vast = app(vast, vast)
	}
	deep := within(1<<16-2, variable("a"))
	for i := range preds {
		preds[i].Type = []api.Type{vast, deep}[i%2]
	}
	wantBoth(t, "a shared type", "ErrBig", insts, preds[0], preds[1])
	if got := reduced(t, insts, preds...) + defaulted(t, insts, preds...); got != "ErrBigErrBig" {
		t.Error(got)
	}
	preds[len(preds)/2].Type = app(variable("m"), api.Type{})
	if got := reduced(t, insts, preds...) + defaulted(t, insts, preds...); got != "ErrArgErrArg" {
		t.Error(got)
	}
}

// R4 and beyond: deep types are too big, or not valid; and great Names.
func TestDeepTypes(t *testing.T) {
	for _, levels := range []int{1<<16 - 2, 1 << 18} {
		for inner, want := range map[string]string{"a": "ErrBig", "": "ErrArg"} {
			of := within(levels, variable(inner))
			left := variable(inner)
			for range levels {
				left = app(left, con("A"))
			}
			wantBoth(t, "a deep argument", want, readInsts("Eq L 1 Eq 0"), api.Pred{Class: "Eq", Type: of})
			wantBoth(t, "a deep function", want, nil, api.Pred{Class: "Eq", Type: left})
		}
	}
	name := strings.Repeat("a", 1<<20)
	class := strings.Repeat("C", 1<<20)
	p := api.Pred{Class: class, Type: within(490, variable(name))}
	if got := reduced(t, []api.Inst{{Class: class, Con: "L", Args: 1, Needs: []api.Need{{Class: class}}}}, p); got != class+" "+name {
		t.Errorf("got %.200s", got)
	}
}

// More than an answer can be: 50000 types of 997 nodes each. (Nothing is
// promised but that there is an answer.)
func TestVastAnswer(t *testing.T) {
	inst := api.Inst{Class: "Eq", Con: "L", Args: 1}
	for _, class := range numbered("C", 50000) {
		inst.Needs = append(inst.Needs, api.Need{Class: class})
	}
	p := api.Pred{Class: "Eq", Type: app(con("L"), great(997, variable("m")))}
	if got := reduced(t, []api.Inst{inst}, p); got != "ErrBig" {
		t.Errorf("got %.200s", got)
	}
	// If there is no answer, it is not too great either.
	inst.Needs = append(inst.Needs, api.Need{Class: "None", Arg: 1})
	inst.Con, inst.Args = "P", 2
	p.Type = app(con("P"), great(995, variable("m")), con("A"))
	if got := reduced(t, []api.Inst{inst}, p); got != "ErrInstance" {
		t.Errorf("got %.200s", got)
	}
}

func node(kind int, subs ...api.Node) api.Node {
	return api.Node{Kind: kind, Subs: subs}
}

func call(kind int, name string, subs ...api.Node) api.Node {
	return api.Node{Kind: kind, Name: name, Subs: subs}
}

func list(subs ...api.Node) api.Node {
	return node(api.List, subs...)
}

func module(name string, declarations ...api.Node) api.Node {
	return call(api.DMod, name, node(api.None), list(), list(declarations...))
}

// Very many instances, and very many DPreds of one.
func TestLargePrograms(t *testing.T) {
	class := call(api.DClass, "C", call(api.TVar, "a"), list(call(api.DMethod, "c", call(api.TVar, "a"))))
	declarations := []api.Node{class}
	var want []string
	for i, name := range numbered("T", 9000) {
		declarations = append(declarations, call(api.DData, name, list(), list()))
		at := api.Node{Kind: api.DInst, Name: "C", Line: i + 1, Col: 2, Subs: []api.Node{list(), call(api.TCon, name), list()}}
		declarations = append(declarations, at)
		want = append(want, "M.C M."+name+" 0")
	}
	insts, d := classes.Insts(module("M", declarations...))
	if d != (api.Diag{}) || sayInsts(insts) != strings.Join(want, "; ") {
		t.Errorf("%.200s %+v", sayInsts(insts), d)
	}
	twice := slices.Insert(slices.Clone(declarations), 17000, declarations[2])
	twice[17000].Line = 1<<30 + 1
	insts, d = classes.Insts(module("M", twice...))
	if len(insts) != 0 || d != (api.Diag{File: "M", Line: 1<<30 + 1, Col: 2, Number: api.ErrOverlap}) {
		t.Errorf("%.200s %+v", sayInsts(insts), d)
	}
	var context []api.Node
	for i := range 100000 {
		context = append(context, call(api.DPred, "C", call(api.TVar, []string{"b", "a", "b"}[i%3])))
	}
	pair := node(api.TApp, node(api.TApp, call(api.TCon, "(,)"), call(api.TVar, "a")), call(api.TVar, "b"))
	insts, d = classes.Insts(module("M", class, call(api.DInst, "C", list(context...), pair, list())))
	if d != (api.Diag{}) || sayInsts(insts) != "M.C Prim.(,) 2 M.C 1 M.C 0" {
		t.Errorf("%.200s %+v", sayInsts(insts), d)
	}
}

// P8.1: instances of a type with as many arguments as a kind allows.
func TestManyArguments(t *testing.T) {
	names := numbered("v", 63)
	text := "module M where\nclass C a where { c :: a }\ndata T " + strings.Join(names, " ") + "\ninstance ("
	want := "M.C M.T 63"
	for i := range names {
		at := len(names) - 1 - i
		text += "C " + names[at] + ", C v00000, "
		want += " M.C " + strconv.Itoa(at)
		if i == 0 {
			want += " M.C 0"
		}
	}
	want = strings.TrimSuffix(want, " M.C 0")
	wantInsts(t, want, strings.TrimSuffix(text, ", ")+") => C (T "+strings.Join(names, " ")+")\n")
}
