package names_test

import (
	"strconv"
	"strings"
	"testing"
	"time"

	"teasel/api"
	"teasel/names"
)

func node(kind int, subs ...api.Node) api.Node {
	return api.Node{Kind: kind, Subs: subs}
}

func call(kind int, name string, subs ...api.Node) api.Node {
	return api.Node{Kind: kind, Name: name, Subs: subs}
}

func list(subs ...api.Node) api.Node {
	return node(api.List, subs...)
}

func module(name string, declarations ...api.Node) api.Node {
	return call(api.DMod, name, node(api.None), list(), list(declarations...))
}

func function(name string, patterns []api.Node, body api.Node, where ...api.Node) api.Node {
	return call(api.DFun, name, node(api.DClause, list(patterns...), rightSide(body, where...)))
}

func rightSide(body api.Node, where ...api.Node) api.Node {
	return node(api.DRhs, list(node(api.DGuard, node(api.None), body)), list(where...))
}

// nested is something in which the same stands so many times, one in another.
func nested(times int, inner api.Node, around func(api.Node) api.Node) api.Node {
	for range times {
		inner = around(inner)
	}
	return inner
}

// levels is how many levels a tree has, counted along the first way down that
// is as deep as any.
func levels(n api.Node) int {
	type left struct {
		node  api.Node
		level int
	}
	most := 0
	for stack := []left{{n, 1}}; len(stack) > 0; {
		last := stack[len(stack)-1]
		stack = stack[:len(stack)-1]
		most = max(most, last.level)
		for _, sub := range last.node.Subs {
			stack = append(stack, left{sub, last.level + 1})
		}
	}
	return most
}

// deepNames is the ways in which an expression can be deep.
const deepNames = "lambda same use let in-let pattern-let where left right if ops case do gen slet put make list sect bind cons"

// deep is an expression with something in it so many times.
func deep(name string, times int) api.Node {
	x, y := call(api.EVar, "x"), call(api.PVar, "y")
	plus := call(api.EOp, "+")
	pattern := func(around func(api.Node) api.Node) api.Node {
		return node(api.ELam, list(nested(times, y, around)), x)
	}
	around := func(n api.Node) api.Node {
		switch name {
		case "lambda":
			return node(api.ELam, list(y), n)
		case "same":
			return node(api.ELam, list(call(api.PVar, "x")), n)
		case "use":
			return node(api.ELam, list(y), node(api.EApp, x, n))
		case "let":
			return node(api.ELet, list(function("y", nil, x)), n)
		case "in-let":
			return node(api.ELet, list(function("y", nil, n)), x)
		case "pattern-let":
			return node(api.ELet, list(node(api.DPat, node(api.PTup, y, node(api.PWild)), rightSide(n))), x)
		case "where":
			return node(api.ECase, x, node(api.EAlt, y, rightSide(x, function("z", nil, n))))
		case "left":
			return node(api.EApp, n, x)
		case "right":
			return node(api.EApp, x, n)
		case "if":
			return node(api.EIf, x, x, n)
		case "ops":
			return node(api.EOps, n, plus, x)
		case "case":
			return node(api.ECase, n, node(api.EAlt, y, rightSide(x)))
		case "do":
			return node(api.EDo, node(api.SGen, y, x), n)
		case "gen":
			return node(api.EDo, node(api.SGen, y, n), x)
		case "slet":
			return node(api.EDo, node(api.SLet, list(function("y", nil, n))), x)
		case "put":
			return node(api.EPut, n, call(api.EField, "l", x))
		case "make":
			return call(api.EMake, "C", call(api.EField, "l", n))
		case "sect":
			return node(api.ERight, plus, n)
		}
		return node(api.EList, n)
	}
	switch name {
	case "bind":
		return pattern(func(n api.Node) api.Node { return node(api.PList, n) })
	case "cons":
		return pattern(func(n api.Node) api.Node { return call(api.PCon, "C", n) })
	}
	return nested(times, x, around)
}

// around is the Prelude and a module around an expression.
func around(t *testing.T, n api.Node) []api.Node {
	t.Helper()
	prelude := tree(t, "module Prelude where\nm >>= k = m\na + b = a\ndata T = C { l :: T }")
	return []api.Node{prelude, module("A", function("f", []api.Node{call(api.PVar, "x")}, n))}
}

// R4: trees may have 2^16 levels. It takes no longer, by level, if there are
// many scopes one in another.
func TestDeep(t *testing.T) {
	for _, name := range strings.Fields(deepNames) {
		mods := around(t, deep(name, 1<<16))
		start := time.Now()
		out, d := names.Resolve(mods...)
		if d != (api.Diag{}) || len(out) != 2 {
			t.Errorf("%s: %+v", name, d)
			continue
		}
		if took := time.Since(start); took > 20*time.Second {
			t.Errorf("%s took %v", name, took)
		}
		if levels(out[1]) != levels(mods[1]) {
			t.Errorf("%s: another tree", name)
		}
	}
}

// R4: what is wrong deep down is told.
func TestDeepAndWrong(t *testing.T) {
	const times = 1 << 16
	wrong := api.Node{Kind: api.EVar, Name: "w", Line: 7, Col: 8}
	want := api.Diag{File: "A", Line: 7, Col: 8, Number: api.ErrUnknown}
	y := call(api.PVar, "y")
	for _, n := range []api.Node{
		nested(times, wrong, func(n api.Node) api.Node { return node(api.ELam, list(y), n) }),
		nested(times, wrong, func(n api.Node) api.Node { return node(api.EApp, n, call(api.EVar, "x")) }),
		nested(times, wrong, func(n api.Node) api.Node { return node(api.ELet, list(function("y", nil, n)), call(api.EInt, "")) }),
		nested(times, wrong, func(n api.Node) api.Node { return node(api.EDo, node(api.SGen, y, n), call(api.EInt, "")) }),
	} {
		if got := diagOf(t, around(t, n)...); got != want {
			t.Error(got)
		}
	}
}

// R4: types may be deep too.
func TestDeepTypes(t *testing.T) {
	const times = 1 << 16
	a := call(api.TVar, "a")
	list1 := func(n api.Node) api.Node { return node(api.TApp, call(api.TCon, "[]"), n) }
	apply := func(n api.Node) api.Node { return node(api.TApp, n, a) }
	for _, n := range []api.Node{nested(times, a, list1), nested(times, a, apply)} {
		data := call(api.DData, "T", list(a), list(call(api.DCon, "C", list(n))))
		out, d := names.Resolve(module("A", data))
		if d != (api.Diag{}) || len(out) != 1 {
			t.Error(d)
		}
		wrong := call(api.DData, "T", list(), list(call(api.DCon, "C", list(n))))
		if d := diagOf(t, module("A", wrong)); d != (api.Diag{File: "A", Number: api.ErrUnknown}) {
			t.Error(d)
		}
	}
}

// R1: calls for deeper trees end too, even for those without an end.
func TestTooDeep(t *testing.T) {
	for _, name := range []string{"lambda", "in-let", "gen", "bind"} {
		names.Resolve(around(t, deep(name, 1<<18))...)
	}
	endless := node(api.EApp, call(api.EInt, ""), call(api.EInt, ""))
	endless.Subs[0] = endless
	if d := diagOf(t, around(t, endless)...); d != (api.Diag{Number: api.ErrTree}) {
		t.Error("a tree without an end:", d)
	}
}

// P4.1: many modules, each of which imports the next one.
func TestManyModules(t *testing.T) {
	const count = 5000
	var mods []api.Node
	for i := range count {
		n := module("M"+strconv.Itoa(i), function("f", nil, call(api.EVar, "f")))
		n.Subs[1].Subs = []api.Node{call(api.DImport, "Prim", list())}
		if i < count-1 {
			n.Subs[1].Subs = append(n.Subs[1].Subs, call(api.DImport, "M"+strconv.Itoa(i+1), node(api.None)))
		}
		mods = append(mods, n)
	}
	for i, n := range resolved(t, mods...) {
		name := "M" + strconv.Itoa(count-1-i)
		if got, want := namesIn(n), name+" "+name+".f "+name+".f"; got != want {
			t.Fatalf("%s, not %s", got, want)
		}
	}
}

// P4.1: many names in one scope, which are used ahead of it.
func TestManyNames(t *testing.T) {
	const count = 50000
	var uses, where []api.Node
	want := []string{"A", "A.f"}
	for i := range count {
		name := "x" + strconv.Itoa(i)
		uses = append(uses, call(api.EVar, name))
		want = append(want, name+"."+strconv.Itoa(2*i+1))
		where = append(where, function(name, []api.Node{call(api.PVar, "y")}, call(api.EVar, "y")))
	}
	for i := range count {
		y := "y." + strconv.Itoa(2*i+2)
		want = append(want, "x"+strconv.Itoa(i)+"."+strconv.Itoa(2*i+1), y, y)
	}
	out := resolved(t, module("A", function("f", nil, node(api.EList, uses...), where...)))
	if namesIn(out[0]) != strings.Join(want, " ") {
		t.Error("other names")
	}
}

// spared is modules whose lists have memory behind their ends.
func spared(nodes []api.Node) []api.Node {
	out := make([]api.Node, len(nodes), len(nodes)+3)
	copy(out, nodes)
	for i := range out {
		out[i].Subs = spared(out[i].Subs)
	}
	for i := range out[len(out):cap(out)] {
		out[len(out):cap(out)][i] = call(api.EVar, "spare")
	}
	return out
}

// whole is all of trees, with what is behind the ends of lists.
func whole(nodes []api.Node) string {
	s := ""
	for i, n := range nodes[:cap(nodes)] {
		alone := n
		alone.Subs = nil
		s += say(alone)
		if i < len(nodes) {
			s += "<" + whole(n.Subs) + ">"
		}
	}
	return s
}

// R2: trees are left as they were handed in, also if there is an error.
func TestTreesAreLeft(t *testing.T) {
	programs := append(bases(t), trees(t, api.Prelude), trees(t, "module A where\nf x x = \\y -> y z\ng = 1"), trees(t, "module A where\nf = 1\nf = 2"))
	for _, mods := range programs {
		mods = spared(mods)
		before := whole(mods)
		first, d := names.Resolve(mods...)
		if whole(mods) != before {
			t.Fatal("a tree was changed:", sayTrees(mods))
		}
		second, again := names.Resolve(mods...)
		if sayTrees(first) != sayTrees(second) || d != again {
			t.Fatal("not the same again:", d, again)
		}
	}
}

// scratch overwrites trees, and the memory behind the ends of their lists.
func scratch(nodes []api.Node) {
	for _, n := range nodes {
		scratch(n.Subs)
	}
	clear(nodes[:cap(nodes)])
}

// R2: an answer shares no memory with a tree, with another answer, or with
// another part of itself.
func TestAnswersStandAlone(t *testing.T) {
	for _, mods := range bases(t) {
		mods = spared(mods)
		first, _ := names.Resolve(mods...)
		second, _ := names.Resolve(mods...)
		want := sayTrees(first)
		scratch(second)
		scratch(mods)
		if sayTrees(first) != want {
			t.Fatal("an answer was changed")
		}
		seen := map[*api.Node]bool{}
		var lists []*[]api.Node
		every(first, func(n *api.Node) {
			if seen[n] {
				t.Fatal("two lists share a node")
			}
			seen[n] = true
			lists = append(lists, &n.Subs)
		})
		for _, l := range lists {
			*l = append(*l, call(api.EVar, "more"))[:len(*l)]
		}
		if sayTrees(first) != want {
			t.Fatal("an append to a list changed another one")
		}
	}
}

// R3: an answer depends on the modules alone.
func TestAnswersAgain(t *testing.T) {
	for _, mods := range bases(t) {
		want := sayTrees(resolved(t, mods...))
		for range 20 {
			diagOf(t, tree(t, "module A where\nf x = y"))
			if sayTrees(resolved(t, mods...)) != want {
				t.Fatal("not the same again")
			}
		}
	}
}
