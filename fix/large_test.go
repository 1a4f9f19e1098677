package fix_test

import (
	"strconv"
	"strings"
	"testing"
	"time"

	"teasel/api"
	"teasel/fix"
)

// nested is something in which the same stands so many times, one in another.
func nested(times int, inner api.Node, around func(api.Node) api.Node) api.Node {
	for range times {
		inner = around(inner)
	}
	return inner
}

// eachNode tells the nodes of a tree of any depth, each ahead of those within
// it and from left to right, with its level.
func eachNode(root api.Node, tell func(n api.Node, level int)) {
	type left struct {
		node  api.Node
		level int
	}
	for stack := []left{{root, 1}}; len(stack) > 0; {
		last := stack[len(stack)-1]
		stack = stack[:len(stack)-1]
		tell(last.node, last.level)
		for i := len(last.node.Subs) - 1; i >= 0; i-- {
			stack = append(stack, left{last.node.Subs[i], last.level + 1})
		}
	}
}

// holdMended holds that nothing is left to mend in trees of any depth, and
// counts the nodes of a kind.
func holdMended(t *testing.T, mods []api.Node, kind int) int {
	t.Helper()
	count := 0
	for _, m := range mods {
		eachNode(m, func(n api.Node, _ int) {
			switch n.Kind {
			case api.EOps, api.POps, api.EOp, api.DFix:
				t.Fatal("left as it was: a " + kindNames[n.Kind])
			case kind:
				count++
			}
		})
	}
	return count
}

// quickly is what Mend answers for modules in which nothing is wrong, within
// some time.
func quickly(t *testing.T, what string, mods ...api.Node) []api.Node {
	t.Helper()
	start := time.Now()
	out, d := fix.Mend(mods...)
	if d != (api.Diag{}) || len(out) != len(mods) {
		t.Fatalf("%s: %+v", what, d)
	}
	if took := time.Since(start); took > 20*time.Second {
		t.Errorf("%s took %v", what, took)
	}
	return out
}

const wide = "module Prelude where\ninfixl 6 +\ninfixr 5 ++, :+\ninfix 4 ==\ninfixl 7 *\n" +
	"(+) = 1\n(++) = 1\n(==) = 1\n(*) = 1\n(>>=) = 1\ndata T = (:+) T T | C { l :: T }\n"

// beside is a Prelude with operators and a module with an expression.
func beside(t *testing.T, n api.Node) []api.Node {
	t.Helper()
	return []api.Node{tree(t, wide), module("A", function("f", nil, n))}
}

// long is a sequence in which the operators take turns.
func long(kind int, operators int, operand func(i int) api.Node, ops ...string) api.Node {
	n := node(kind, operand(0))
	for i := range operators {
		n.Subs = append(n.Subs, operator(ops[i%len(ops)]), operand(i+1))
	}
	return n
}

// P5.1: sequences may be long, and take no longer by operator.
func TestLong(t *testing.T) {
	const operators = 200000
	number := func(i int) api.Node { return api.Node{Kind: api.EInt, N: i} }
	for _, c := range []struct {
		ops   string
		depth int // at least
	}{
		{"+", operators},
		{"++", operators},
		{"* +", operators / 2},
		{"++ *", operators / 2},
		{"* + ++ : + *", operators / 3},
	} {
		out := quickly(t, c.ops, beside(t, long(api.EOps, operators, number, strings.Fields(c.ops)...))...)
		next, deepest := 0, 0
		eachNode(out[1], func(n api.Node, level int) {
			deepest = max(deepest, level)
			if n.Kind == api.EInt {
				if n.N != next {
					t.Fatalf("%s: %d behind %d", c.ops, n.N, next-1)
				}
				next++
			}
		})
		if got := holdMended(t, out[1:], api.EApp); got != 2*operators || next != operators+1 || deepest < c.depth {
			t.Errorf("%s: %d applications, %d operands, %d levels", c.ops, got, next, deepest)
		}
	}
}

// P5.1: patterns likewise.
func TestLongPattern(t *testing.T) {
	const operators = 200000
	wild := func(int) api.Node { return node(api.PWild) }
	for _, ops := range [][]string{{":"}, {"C"}, {":+", "C", ":"}} {
		pattern := long(api.POps, operators, wild, ops...)
		out := quickly(t, ops[0], beside(t, node(api.ELam, list(pattern), node(api.EList)))...)
		if got := holdMended(t, out[1:], api.PCon); got != operators {
			t.Errorf("%v: %d constructors", ops, got)
		}
	}
}

// P5.2: the last operator of a long sequence clashes with the first one.
func TestLongAndWrong(t *testing.T) {
	const operators = 200000
	number := func(i int) api.Node { return api.Node{Kind: api.EInt, N: i} }
	n := long(api.EOps, operators, number, "*", "+")
	n.Subs[1], n.Subs[len(n.Subs)-2] = operator("=="), operator("==")
	n.Subs[len(n.Subs)-2].Line = 77
	if d := diagOf(t, beside(t, n)...); d != (api.Diag{File: "A", Line: 77, Number: api.ErrMix}) {
		t.Error(d)
	}
}

// deepNames is the ways in which an expression can be deep.
const deepNames = "left right middle sect sectleft if lambda let where case do gen put make tuple"

// deep is an expression with something in it so many times.
func deep(name string, times int) api.Node {
	x, y := api.Node{Kind: api.EInt, N: 1}, node(api.PWild)
	plus, cons := operator("+"), operator(":")
	sum := func(n api.Node) api.Node { return node(api.EOps, n, plus, x) }
	return nested(times, x, func(n api.Node) api.Node {
		switch name {
		case "left":
			return sum(n)
		case "right":
			return node(api.EOps, x, plus, n)
		case "middle":
			return node(api.EOps, x, plus, n, plus, x)
		case "sect":
			return node(api.ERight, plus, n)
		case "sectleft":
			return node(api.ELeft, n, cons)
		case "if":
			return node(api.EIf, x, x, sum(n))
		case "lambda":
			return node(api.ELam, list(node(api.POps, y, cons, y)), sum(n))
		case "let":
			return node(api.ELet, list(function("y", nil, sum(n))), x)
		case "where":
			return node(api.ECase, x, node(api.EAlt, node(api.POps, y, cons, y), rightSide(x, function("z", nil, n))))
		case "case":
			return node(api.ECase, sum(n), node(api.EAlt, y, rightSide(x)))
		case "do":
			return node(api.EDo, node(api.SGen, y, x), sum(n))
		case "gen":
			return node(api.EDo, node(api.SGen, y, n), sum(x))
		case "put":
			return node(api.EPut, sum(n), call(api.EField, "l", x))
		case "make":
			return call(api.EMake, "C", call(api.EField, "l", sum(n)))
		}
		return node(api.ETup, x, sum(n))
	})
}

// R4: trees may have 2^16 levels.
func TestDeep(t *testing.T) {
	for _, name := range strings.Fields(deepNames) {
		out := quickly(t, name, beside(t, deep(name, 1<<16))...)
		holdMended(t, out, api.None)
	}
	y, cons := node(api.PWild), operator(":+")
	for _, around := range []func(api.Node) api.Node{
		func(n api.Node) api.Node { return node(api.POps, n, cons, y) },
		func(n api.Node) api.Node { return node(api.POps, y, cons, n) },
		func(n api.Node) api.Node { return node(api.PList, node(api.POps, y, cons, n, cons, y)) },
	} {
		out := quickly(t, "pattern", beside(t, node(api.ELam, list(nested(1<<15, y, around)), node(api.EList)))...)
		holdMended(t, out, api.None)
	}
}

// R4: what is wrong deep down is told.
func TestDeepAndWrong(t *testing.T) {
	x, plus, equal := api.Node{Kind: api.EInt, N: 1}, operator("+"), operator("==")
	second := equal
	second.Line, second.Col = -1, 8
	for _, around := range []func(api.Node) api.Node{
		func(n api.Node) api.Node { return node(api.EOps, n, plus, x) },
		func(n api.Node) api.Node { return node(api.EOps, x, plus, n) },
		func(n api.Node) api.Node { return node(api.ERight, plus, n) },
		func(n api.Node) api.Node { return node(api.ELet, list(function("y", nil, n)), x) },
	} {
		n := nested(1<<16, node(api.EOps, x, equal, x, second, x), around)
		if d := diagOf(t, beside(t, n)...); d != (api.Diag{File: "A", Line: -1, Col: 8, Number: api.ErrMix}) {
			t.Error(d)
		}
	}
}

// R1: calls for deeper trees end too, even for those without an end.
func TestTooDeep(t *testing.T) {
	for _, name := range []string{"left", "right", "sect", "let"} {
		fix.Mend(beside(t, deep(name, 1<<18))...)
	}
	endless := node(api.EOps, call(api.EInt, ""), operator("+"), call(api.EInt, ""))
	endless.Subs[0] = endless
	if d := diagOf(t, beside(t, endless)...); d != (api.Diag{Number: api.ErrTree}) {
		t.Error("a tree without an end:", d)
	}
}

// P5.1: many operators with fixities of their own, in many modules.
func TestManyOperators(t *testing.T) {
	const modules, each = 40, 500
	var mods []api.Node
	for m := range modules {
		var declarations []api.Node
		for i := range each {
			name := "x" + strconv.Itoa(m*each+i)
			body := node(api.EOps, node(api.EList), operator(name), node(api.EList), operator(name), node(api.EList))
			declarations = append(declarations, function(name, nil, body), fixity([]string{"infixl", "infixr"}[i%2], i%10, name))
		}
		mods = append(mods, module("M"+strconv.Itoa(100+m), declarations...))
	}
	for _, m := range quickly(t, "many", mods...) {
		if len(m.Subs[2].Subs) != each {
			t.Fatal("declarations are missing")
		}
		for i, d := range m.Subs[2].Subs {
			body := d.Subs[0].Subs[1].Subs[0].Subs[0].Subs[1]
			want := "(" + d.Name + " (" + d.Name + " EList[] EList[]) EList[])"
			if i%2 == 1 {
				want = "(" + d.Name + " EList[] (" + d.Name + " EList[] EList[]))"
			}
			if got := brief(body); got != want {
				t.Fatalf("%s, not %s", got, want)
			}
		}
	}
}

// spared is modules whose lists have memory behind their ends.
func spared(nodes []api.Node) []api.Node {
	out := make([]api.Node, len(nodes), len(nodes)+3)
	copy(out, nodes)
	for i := range out {
		out[i].Subs = spared(out[i].Subs)
	}
	for i := range out[len(out):cap(out)] {
		out[len(out):cap(out)][i] = call(api.EVar, "spare")
	}
	return out
}

// whole is all of trees, with what is behind the ends of lists.
func whole(nodes []api.Node) string {
	s := ""
	for i, n := range nodes[:cap(nodes)] {
		alone := n
		alone.Subs = nil
		s += say(alone)
		if i < len(nodes) {
			s += "<" + whole(n.Subs) + ">"
		}
	}
	return s
}

// samples is programs, also wrong ones.
func samples(t *testing.T) [][]api.Node {
	t.Helper()
	const a = "module A where\ninfixl 6 +\ninfixr 5 :+, ++\n(+) = 1 + 2 ++ 3 + 4 : 5\n(++) (1 :+ 2 :+ 3) = (1 + 2 + 3 +)\ndata T = (:+)\n"
	const b = "module B where\nimport A\nf (x : y : z) = x + (y ++ z ++ x) where g = (: x + y)\n"
	out := [][]api.Node{
		trees(t, a), trees(t, a, b), trees(t, b, a), trees(t, api.Prelude),
		trees(t, a+"infix 3 +"), trees(t, a, b+"infix 1 +"), trees(t, a, b+"g = 1 : 2 : 3 `f` 4 ++ 5"), trees(t, a, "module Z where\nf = g"),
		trees(t, "module A where\ninfix 3 +\n(+) = 1 + 2 + 3"),
	}
	eachProgram(t, 15, true, func(mods, _ []api.Node, _ api.Diag) { out = append(out, mods) })
	eachProgram(t, 15, false, func(mods, _ []api.Node, _ api.Diag) { out = append(out, mods) })
	return out
}

// R2 and R3: trees are left as they were handed in, also if there is an
// error; and an answer depends on them alone.
func TestTreesAreLeft(t *testing.T) {
	for _, mods := range samples(t) {
		mods = spared(mods)
		before := whole(mods)
		first, d := fix.Mend(mods...)
		if whole(mods) != before {
			t.Fatal("a tree was changed:", sayTrees(mods))
		}
		fix.Mend(tree(t, "module A where\ninfixr 0 +, ++, :+, -, *, :*\n(+) = 1\n(++) = 1\n(-) = 1\n(*) = 1\ndata T = (:+) | (:*)"))
		second, again := fix.Mend(mods...)
		if sayTrees(first) != sayTrees(second) || d != again {
			t.Fatal("not the same again:", d, again)
		}
	}
}

// scratch overwrites trees, and the memory behind the ends of their lists.
func scratch(nodes []api.Node) {
	for _, n := range nodes {
		scratch(n.Subs)
	}
	clear(nodes[:cap(nodes)])
}

// R2: an answer shares no memory with a tree, with another answer, or with
// another part of itself.
func TestAnswersStandAlone(t *testing.T) {
	for _, mods := range samples(t) {
		mods = spared(mods)
		first, _ := fix.Mend(mods...)
		second, _ := fix.Mend(mods...)
		want := sayTrees(first)
		scratch(second)
		scratch(mods)
		if sayTrees(first) != want {
			t.Fatal("an answer was changed")
		}
		seen := map[*api.Node]bool{}
		var lists []*[]api.Node
		every(first, func(n *api.Node) {
			if seen[n] {
				t.Fatal("two lists share a node")
			}
			seen[n] = true
			lists = append(lists, &n.Subs)
		})
		for _, l := range lists {
			*l = append(*l, call(api.EVar, "more"))[:len(*l)]
		}
		if sayTrees(first) != want {
			t.Fatal("an append to a list changed another one")
		}
	}
}

// R2: a tree in which one list stands at several places comes out as if each
// place had its own.
func TestSharedLists(t *testing.T) {
	x := api.Node{Kind: api.EInt, N: 1}
	sum := node(api.EOps, x, operator("+"), x, operator("*"), x)
	section := node(api.ELeft, sum, operator("+"))
	body := node(api.ETup, section, node(api.EOps, sum, operator("+"), sum), section)
	got := mended(t, beside(t, body)...)[1]
	if got, want := brief(got.Subs[2].Subs[0].Subs[0].Subs[1].Subs[0].Subs[0].Subs[1]),
		"ETup[ELeft[S Prelude.+] (Prelude.+ S S) ELeft[S Prelude.+]]"; got != strings.ReplaceAll(want, "S", "(Prelude.+ 1 (Prelude.* 1 1))") {
		t.Error(got)
	}
}
