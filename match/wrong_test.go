package match_test

import (
	"math"
	"slices"
	"strconv"
	"testing"

	"teasel/api"
	"teasel/match"
)

// without is the table without constructors of a name.
func without(name string) api.Table {
	t := table()
	t.Cons = slices.DeleteFunc(t.Cons, func(c api.Cons) bool { return c.Name == name })
	return t
}

// withArity is the table with another number of fields of a constructor.
func withArity(name string, arity int) api.Table {
	t := table()
	for i := range t.Cons {
		if t.Cons[i].Name == name {
			t.Cons[i].Arity = arity
		}
	}
	return t
}

type wrongPattern struct {
	what string
	t    api.Table
	p    api.Node
}

// wrongPatterns is nodes that are no patterns, for each reason.
func wrongPatterns() []wrongPattern {
	bare := func(kind int, name string, subs ...api.Node) api.Node {
		return api.Node{Kind: kind, Name: name, Subs: subs}
	}
	var all []wrongPattern
	add := func(what string, p api.Node) { all = append(all, wrongPattern{what, table(), p}) }
	addIn := func(what string, t api.Table, p api.Node) { all = append(all, wrongPattern{what, t, p}) }
	for kind := -2; kind <= api.TApp+3; kind++ {
		if kind < api.PVar || kind > api.PMake || kind == api.POps {
			add("Kind "+strconv.Itoa(kind), bare(kind, "x"))
			add("Kind "+strconv.Itoa(kind)+" like a PCon", bare(kind, "B", wild()))
			add("Kind "+strconv.Itoa(kind)+" like a PTup", bare(kind, "", wild(), wild()))
		}
	}
	add("a POps", bare(api.POps, "", wild(), bare(api.EOp, "C"), wild()))
	add("a great Kind", bare(math.MaxInt, "x"))
	add("a small Kind", bare(math.MinInt, "x"))

	add("a PVar without a Name", pvar(""))
	add("a PVar with a child", bare(api.PVar, "y", wild()))
	add("a PWild with a child", bare(api.PWild, "", wild()))
	add("a PInt with a child", bare(api.PInt, "", num(1)))
	add("a PStr with a child", bare(api.PStr, "a", num(97)))
	add("an empty PStr with a child", bare(api.PStr, "", wild()))

	add("a PCon of nothing", pcon("Q"))
	add("a PCon without a Name", pcon(""))
	add("a PCon of a name without its module", pcon("(,)", wild(), wild()))
	add("a PCon of a field", pcon("b", wild()))
	add("a PCon with no child", pcon("B"))
	add("a PCon with a child", pcon("A", wild()))
	add("a PCon with too few children", pcon("R", wild(), wild()))
	add("a PCon with too many children", pcon("R", wild(), wild(), wild(), wild()))
	add("a PCon with an EField", pcon("B", field("b", wild())))
	addIn("a PCon without constructors", api.Table{Labels: table().Labels}, pcon("B", wild()))
	addIn("a PCon of fewer fields than none", api.Table{Cons: []api.Cons{{Name: "N", Arity: -1, Family: 1}}}, pcon("N"))

	add("a PTup without children", tup())
	add("a PTup of one child", tup(wild()))
	add("a PTup of four children", tup(wild(), wild(), wild(), wild()))
	addIn("a PTup without a constructor", without("Prim.(,)"), tup(wild(), wild()))
	addIn("a PTup of three without a constructor", without("Prim.(,,)"), tup(wild(), wild(), wild()))
	for arity := range 5 {
		for count := range 5 {
			what, p := "a PTup of "+strconv.Itoa(count)+" for "+strconv.Itoa(arity), tup(slices.Repeat([]api.Node{wild()}, count)...)
			if count != 3 && (count != 2 || arity != 2) {
				addIn(what, withArity("Prim.(,)", arity), p)
			}
			if count != 2 && (count != 3 || arity != 3) {
				addIn(what, withArity("Prim.(,,)", arity), p)
			}
		}
	}

	addIn("an empty PList without []", without("Prim.[]"), list())
	addIn("a PList without []", without("Prim.[]"), list(wild()))
	addIn("a PList without :", without("Prim.:"), list(wild()))
	addIn("an empty PList with another []", withArity("Prim.[]", 1), list())
	addIn("a PList with another []", withArity("Prim.[]", 1), list(wild()))
	addIn("a PList with another :", withArity("Prim.:", 1), list(wild(), wild()))
	addIn("an empty PStr without []", without("Prim.[]"), text(""))
	addIn("a PStr without []", without("Prim.[]"), text("a"))
	addIn("a PStr without :", without("Prim.:"), text("a"))
	addIn("an empty PStr with another []", withArity("Prim.[]", 2), text(""))
	addIn("a PStr with another []", withArity("Prim.[]", 2), text("a"))
	addIn("a PStr with another :", withArity("Prim.:", 3), text("ab"))

	add("a PAs without a child", bare(api.PAs, "y"))
	add("a PAs with two children", bare(api.PAs, "y", wild(), wild()))
	add("a PAs without a Name", as("", wild()))

	add("a PMake of nothing", rec("Q"))
	add("a PMake of nothing with a field", rec("Q", field("x", wild())))
	add("a PMake without a Name", rec(""))
	add("a PMake with a pattern", rec("R", wild()))
	add("a PMake with a pattern behind a field", rec("R", field("x", wild()), pvar("y")))
	add("a PMake with another Kind of field", rec("R", bare(api.DField, "x", wild())))
	add("a PMake with an empty field", rec("R", bare(api.EField, "x")))
	add("a PMake with a field of two patterns", rec("R", bare(api.EField, "x", wild(), wild())))
	add("a PMake with a field of no pattern", rec("R", field("x", bare(api.EVar, "x"))))
	add("a PMake with a field of a field", rec("R", field("x", field("x", wild()))))
	add("a PMake with a field that is not there", rec("R", field("none", wild())))
	add("a PMake with a field of another constructor", rec("R", field("b", wild())))
	add("a PMake with a field without a Name", rec("R", field("", wild())))
	add("a PMake with the same field twice", rec("R", field("x", wild()), field("y", wild()), field("x", wild())))
	add("a PMake with two fields with the same Place", rec("R", field("z", wild()), field("zz", wild())))
	add("a PMake with a Place below 0", rec("R", field("below", wild())))
	add("a PMake with a Place that is too great", rec("R", field("behind", wild())))
	addIn("a PMake without constructors", api.Table{Labels: table().Labels}, rec("R", field("x", wild())))
	addIn("a PMake without Labels", api.Table{Cons: table().Cons}, rec("R", field("x", wild())))
	addIn("a PMake with a field of one without fields", api.Table{Cons: []api.Cons{{Name: "N", Family: 1}}, Labels: []api.Label{{Name: "n", Con: "N"}}}, rec("N", field("n", wild())))
	addIn("a PMake whose Con comes with the field", api.Table{Cons: []api.Cons{{Name: "ab", Arity: 1, Family: 1}, {Name: "a", Arity: 1, Family: 1}}, Labels: []api.Label{{Name: "bc", Con: "a"}}}, rec("ab", field("c", wild())))
	return all
}

// P11.1, P11.2: each reason for which a node is no pattern, alone and within
// others, in each row and column.
func TestNoPatterns(t *testing.T) {
	names := []string{"c", "d"}
	for _, w := range wrongPatterns() {
		within := []api.Node{w.p, as("y", w.p), tup(w.p, wild()), tup(wild(), w.p), tup(wild(), num(1), w.p), list(w.p), list(wild(), w.p, wild()), pcon("B", w.p), pcon("C", num(1), w.p), pcon("R", wild(), wild(), w.p),
			pcon("Prim.:", wild(), w.p), rec("R", field("y", w.p)), rec("R", field("x", wild()), field("y", num(2)), field("z", w.p)), as("y", as("z", tup(wild(), list(w.p)))), rec("C", field("two", pcon("B", tup(w.p, w.p))))}
		for _, p := range within {
			if match.Sure(w.t, p) {
				t.Error(w.what, "is irrefutable:", sayNode(p))
			}
			if refSure(w.t, p) {
				t.Error(w.what, "is a pattern by the second way")
			}
			wantErrArg(t, w.what, w.t, names[:1], 1, row(lit(1), p))
			wantErrArg(t, w.what, w.t, names, 1, row(lit(1), p, wild()))
			wantErrArg(t, w.what, w.t, names, 1, row(lit(1), num(1), p))
			wantErrArg(t, w.what, w.t, names, 1, row(lit(1), num(1), wild()), row(lit(1), wild(), p))
			// A row behind an irrefutable one is looked at too.
			wantErrArg(t, w.what, w.t, names, 1, row(lit(1), wild(), wild()), row(lit(2), wild(), wild()), row(lit(1), p, wild()))
		}
	}
}

// P11.1: first numbers, names and rows that may not be.
func TestWrongArguments(t *testing.T) {
	fits, two := row(lit(1), wild()), []string{"c", "d"}
	for _, first := range []int{0, -1, -70, math.MinInt} {
		wantErrArg(t, "the first number", table(), nil, first)
		wantErrArg(t, "the first number", table(), two[:1], first, fits)
	}
	for _, names := range [][]string{{""}, {"", "d"}, {"c", ""}, {"c", "d", "", "e"}} {
		wantErrArg(t, "a name", table(), names, 1)
		pats := make([]api.Node, len(names))
		for i := range pats {
			pats[i] = wild()
		}
		wantErrArg(t, "a name", table(), names, 1, row(lit(1), pats...))
	}
	for _, r := range []api.Row{row(lit(1)), fits, row(lit(1), wild(), wild(), wild()), row(lit(1), num(1), num(2), num(3), num(4))} {
		both := row(lit(1), wild(), wild())
		wantErrArg(t, "the patterns of a row", table(), two, 1, r)
		wantErrArg(t, "the patterns of a row", table(), two, 1, r, both)
		wantErrArg(t, "the patterns of a row", table(), two, 1, row(lit(1), wild(), num(1)), r)
		wantErrArg(t, "the patterns of a row", table(), two, 1, both, both, r)
	}
	wantErrArg(t, "a pattern without a name", table(), nil, 1, fits)
	wantErrArg(t, "two patterns for a name", table(), two[:1], 1, row(lit(1), wild(), wild()))
	// What is right nearby.
	for what, errno := range map[string]api.Errno{
		"the first number": wantAsReference(t, table(), two[:1], 1, fits),
		"names":            wantAsReference(t, table(), []string{"c", "c", " "}, 7, row(lit(1), wild(), wild(), wild())),
		"no names":         wantAsReference(t, table(), nil, 1, row(lit(1)), row(lit(1))),
	} {
		if errno != api.OK {
			t.Error(what, errno)
		}
	}
}

// What is not needed need not be in the table.
func TestLittleTables(t *testing.T) {
	wantCompile(t, `let m#1 = (\m#2 -> #11) in case c as m#3 {Prim.[] -> case d as m#4 {Prim.[] -> 7; _ -> (m#1 !Prim.())}; _ -> (m#1 !Prim.())}`, 5, without("Prim.:"), "c d", 1, row(lit(7), list(), text("")))
	wantCompile(t, `case c as m#1 {Prim.(,) m#2 m#3 -> 7}`, 4, without("Prim.(,,)"), "c", 1, row(lit(7), tup(wild(), wild())))
	wantCompile(t, `case c as m#1 {Prim.(,,) m#2 m#3 m#4 -> 7}`, 5, without("Prim.(,)"), "c", 1, row(lit(7), tup(wild(), wild(), wild())))
	wantCompile(t, `let m#1 = (\m#2 -> #11) in let y = c in case d as m#3 {4 -> 7; _ -> (m#1 !Prim.())}`, 4, api.Table{}, "c d", 1, row(lit(7), as("y", wild()), num(4)))
	// Names without letters, and Places of which some are wrong, but not these.
	odd := api.Table{Cons: []api.Cons{{Arity: 2, Family: 1}, {Name: "N", Arity: -1, Family: 1}}, Labels: []api.Label{{Place: 1}, {Name: "n", Place: 2}}}
	wantCompile(t, `case c as m#1 { m#2 m#3 -> 7}`, 4, odd, "c", 1, row(lit(7), pcon("", wild(), wild())))
	wantCompile(t, `case c as m#1 { m#2 m#3 -> let y = m#3 in 7}`, 4, odd, "c", 1, row(lit(7), rec("", field("", pvar("y")))))
	wantCompile(t, `case c as m#1 {N -> 7}`, 2, odd, "c", 1, row(lit(7), rec("N")))
	wantErrArg(t, "a Place that is too great", odd, []string{"c"}, 1, row(lit(7), rec("", field("n", wild()))))
}
