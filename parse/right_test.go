package parse_test

import (
	"math"
	"math/rand"
	"slices"
	"strings"
	"testing"

	"teasel/api"
	"teasel/lex"
	"teasel/parse"
)

// isParsed says by its meaning whether a tree is Right: there are tokens of
// which Parse answers it. The tokens are those that a writer writes for it.
func isParsed(n api.Node) (ok bool) {
	defer func() {
		if recover() != nil { // no writer can write it
			ok = false
		}
	}()
	w := &writer{place: func() (int, int) { return 1, 1 }, choose: func() bool { return false }}
	w.module(unsettled(n)[0])
	for _, t := range w.tokens {
		if !isToken(t) {
			return false
		}
	}
	got, d := parse.Parse(w.tokens)
	return d == (api.Diag{}) && same(got, n)
}

// isToken says whether a token may be one of a Right tree.
func isToken(t api.Token) bool {
	switch t.Kind {
	case api.ConTok, api.VarTok, api.OpTok, api.ConOpTok:
		ts, d := lex.Read(t.Text)
		return d == (api.Diag{}) && len(ts) == 2 && ts[0].Kind == t.Kind && ts[0].Text == t.Text
	case api.IntTok:
		return t.N >= 0
	}
	return true
}

// same holds trees against each other, but for their positions.
func same(a, b api.Node) bool {
	if a.Kind != b.Kind || a.Name != b.Name || a.N != b.N || len(a.Subs) != len(b.Subs) {
		return false
	}
	for i := range a.Subs {
		if !same(a.Subs[i], b.Subs[i]) {
			return false
		}
	}
	return true
}

// unsettled is the nodes of a tree as a writer takes them: expressions for
// patterns, and equations for clauses.
func unsettled(n api.Node) []api.Node {
	var subs []api.Node
	for _, x := range n.Subs {
		subs = append(subs, unsettled(x)...)
	}
	n.Subs = subs
	switch n.Kind {
	case api.DFun:
		var out []api.Node
		for _, clause := range subs {
			left := call(api.EVar, n.Name)
			for _, p := range clause.Subs[0].Subs {
				left = node(api.EApp, left, p)
			}
			out = append(out, node(api.DPat, left, clause.Subs[1]))
		}
		return out
	case api.PCon:
		out := call(api.ECon, n.Name)
		for _, p := range subs {
			out = node(api.EApp, out, p)
		}
		return []api.Node{out}
	}
	kinds := map[int]int{api.PVar: api.EVar, api.PWild: api.EWild, api.PInt: api.EInt, api.PStr: api.EStr, api.POps: api.EOps, api.PTup: api.ETup, api.PList: api.EList, api.PAs: api.EAs, api.PMake: api.EMake}
	if kind, ok := kinds[n.Kind]; ok {
		n.Kind = kind
	}
	return []api.Node{n}
}

// oddNames are names of all sorts, right ones and wrong ones.
var oddNames = []string{
	"", "x", "f", "A", "B", "_", "_a", "'", "a'", "A'", "x y", "é", "a.b", "M.x", "1", "1a", "where", "data", "infix", "infixl", "infixr", "infixx", "Where", "if'",
	"+", "-", "--", "---", "-->", "|--", "--|", "{-", "-}", ":", "::", ":::", ":+", ":-", "=", "==", `\`, `\\`, "|", "||", "<-", "->", "=>", "@", "@@", "<->", "+:", "a+",
	"()", "(,)", "(,,)", "(,,,)", "[]", "(->)", "( )", "(", ")", "`x`", "(+)", " x", "x ", "x\n", "+ ", "\"", "\x00",
}

// changed is a tree in which something is changed at random, at one node.
func changed(m *maker, n api.Node) api.Node {
	if len(n.Subs) > 0 && m.Intn(4) > 0 {
		n.Subs = append([]api.Node(nil), n.Subs...)
		i := m.Intn(len(n.Subs))
		n.Subs[i] = changed(m, n.Subs[i])
		return n
	}
	switch m.Intn(6) {
	case 0:
		n.Kind = m.Intn(api.TApp+4) - 1
	case 1:
		n.Name = pick(m, oddNames...)
	case 2:
		n.N = pick(m, -1, 0, 1, 2, 9, 10, math.MaxInt, math.MinInt)
	default:
		n.Subs = changedParts(m, n.Subs)
	}
	return n
}

func changedParts(m *maker, subs []api.Node) []api.Node {
	subs = append([]api.Node(nil), subs...)
	i := m.Intn(len(subs) + 1)
	if i == len(subs) || m.Intn(4) == 0 {
		return append(subs, pick(m, m.leaf(), node(api.List), api.Node{}, m.pattern(1), m.exp(1), m.typeExp(1), call(api.PVar, "x"), node(api.PWild)))
	}
	switch m.Intn(4) {
	case 0:
		return append(subs[:i], subs[i+1:]...)
	case 1:
		return append(subs, subs[i])
	case 2:
		j := m.Intn(len(subs))
		subs[i], subs[j] = subs[j], subs[i]
	case 3:
		subs[i] = pick(m, m.leaf(), node(api.List), api.Node{}, m.exp(1), m.typeExp(1), call(api.PVar, "x"), number(api.PInt, 1), call(api.PCon, "A"))
	}
	return subs
}

// P3.3: trees that are changed at random are Right if they can be parsed.
func TestChangedTrees(t *testing.T) {
	right, wrong := 0, 0
	for seed := range int64(5000) {
		m := &maker{Rand: rand.New(rand.NewSource(seed))}
		w := &writer{place: func() (int, int) { return m.Int(), m.Int() }, choose: func() bool { return false }}
		w.module(m.module())
		n, d := parse.Parse(w.tokens)
		if d.Number == api.ErrNest {
			continue
		}
		if !isParsed(n) {
			if d.Number != api.ErrPattern {
				t.Fatalf("seed %d: %s: cannot be written: %s", seed, texts(w.tokens), say(n))
			}
			continue
		}
		for range 5 {
			odd := changed(m, n)
			want := isParsed(odd)
			if parse.Right(odd) != want {
				t.Fatalf("seed %d: Right should be %v: %s", seed, want, say(odd))
			}
			if want {
				right++
			} else {
				wrong++
			}
		}
	}
	if right < 1000 || wrong < 1000 {
		t.Error("too few of a sort:", right, wrong)
	}
}

// everything is a module with nodes of all kinds.
const everything = `module M (f, (+), T) where {
import A; import B (g, (<), C);
data T a b = N | (:+) a (T b) [a] | R { l :: a -> b, (#) :: (a, b, ()) };
class C f where { m :: f a; (<+>) :: [] (,) };
instance C T where { f x = y; g = z };
instance (C a, D b) => C (a, b) where { a + b = c };
instance C a => C [a]; instance C (a -> b); instance C (T a); instance C (,,);
infixr 5 +, :+, ` + "`f`, `C`" + `;
f x (y:_) "s" 1 [z, w] q@(C v) R { l = u } () = g x where { g | a = 1 | b = 2; (a, b) = c };
f _ y z 2 [] p q r = \x (y, z) -> x + y : z;
_ = let { f (A b) = c; g = d } in if a then (b +) else (+ b);
f = case x of { 1 -> a; y | b -> c | d -> e where { h = i } };
g = do { x <- a; let { y = x }; "s"; [a, (b, c), (d, e, ())] };
h = R { l = 1 } { m = 2, (+) = x }
}`

// changes is what a tree can be made of by one change at one of its nodes.
func changes(n api.Node) []api.Node {
	var out []api.Node
	add := func(change func(*api.Node)) {
		x := n
		x.Subs = append([]api.Node(nil), n.Subs...)
		change(&x)
		out = append(out, x)
	}
	for kind := -1; kind <= api.TApp+1; kind++ {
		add(func(x *api.Node) { x.Kind = kind })
	}
	for _, name := range oddNames {
		add(func(x *api.Node) { x.Name = name })
	}
	for _, number := range []int{-1, 0, 1, 9, 10, math.MaxInt, math.MinInt} {
		add(func(x *api.Node) { x.N = number })
	}
	add(func(x *api.Node) { x.Subs = nil })
	for _, more := range []api.Node{{}, node(api.List), call(api.EVar, "x"), call(api.PVar, "x"), call(api.TVar, "x"), node(api.EWild), call(api.EAs, "x", call(api.EVar, "y"))} {
		add(func(x *api.Node) { x.Subs = append(x.Subs, more) })
		add(func(x *api.Node) { x.Subs = append([]api.Node{more}, x.Subs...) })
	}
	for i := range n.Subs {
		add(func(x *api.Node) { x.Subs = append(x.Subs[:i], x.Subs[i+1:]...) })
		add(func(x *api.Node) { x.Subs = append(x.Subs, x.Subs[i]) })
		for _, part := range changes(n.Subs[i]) {
			add(func(x *api.Node) { x.Subs[i] = part })
		}
	}
	return out
}

// P3.3: a module with nodes of all kinds, in which one thing is changed, be it
// any, is Right if it can be parsed.
func TestOneChange(t *testing.T) {
	ts, _ := lex.Read(everything)
	n, d := parse.Parse(ts)
	if d != (api.Diag{}) || !parse.Right(n) || !isParsed(n) {
		t.Fatalf("%+v %s", d, say(n))
	}
	decls := n.Subs[2].Subs
	n.Subs[2].Subs = nil
	holdChanges(t, n)
	for i := range decls {
		holdChanges(t, call(api.DMod, "M", api.Node{}, node(api.List), node(api.List, decls[i])))
	}
}

func holdChanges(t *testing.T, n api.Node) {
	t.Helper()
	right := 0
	for _, odd := range changes(n) {
		want := isParsed(odd)
		if parse.Right(odd) != want {
			t.Errorf("Right should be %v: %s", want, say(odd))
		}
		if want {
			right++
		}
	}
	if right < 20 {
		t.Errorf("too few that are Right, %d: %s", right, say(n))
	}
}

// clauseOf is a clause with patterns and no declarations.
func clauseOf(exp api.Node, patterns ...api.Node) api.Node {
	guard := node(api.DGuard, api.Node{}, exp)
	return node(api.DClause, node(api.List, patterns...), node(api.DRhs, node(api.List, guard), node(api.List)))
}

// moduleOf is a module with these declarations.
func moduleOf(decls ...api.Node) api.Node {
	return call(api.DMod, "M", api.Node{}, node(api.List), node(api.List, decls...))
}

func withExp(exp api.Node) api.Node {
	return moduleOf(call(api.DFun, "f", clauseOf(exp)))
}

func withPattern(p api.Node) api.Node {
	return moduleOf(call(api.DFun, "f", clauseOf(node(api.EList), p)))
}

func withType(n api.Node) api.Node {
	return moduleOf(call(api.DClass, "C", call(api.TVar, "c"), node(api.List, call(api.DMethod, "m", n))))
}

func wantRight(t *testing.T, want bool, n api.Node) {
	t.Helper()
	if parse.Right(n) != want {
		t.Errorf("Right should be %v: %.300s", want, say(n))
	}
}

// P3.3: which names may stand where.
func TestRightNames(t *testing.T) {
	names := map[string][]string{
		"var":     {"x", "_a", "a'", "__", "_'", "if'", "wheres", "aB9", strings.Repeat("x", 16384)},
		"con":     {"A", "A'", "Where", "Z_9", strings.Repeat("X", 16384)},
		"op":      {"+", "-", "-->", "|--", "--|", "==", "<->", `\\`, "@@", "||", ".", "=:", "+:", strings.Repeat("+", 16384)},
		"conop":   {":", ":+", ":::", ":-", "::=", ":" + strings.Repeat("-", 16383)},
		"unit":    {"()", "(,)", "(,,)"},
		"types":   {"[]", "->"},
		"nothing": {""},
		"never": {"_", "where", "case", "=", "|", "<-", "@", "=>", "::", `\`, "--", "---", "1", "1a", "'", "a b", " a", "A ", "a\n", "é", "a.b", "(,,,)", "(->)", "(+)", "`x`", "{-", "[", "(", ",", "\x00",
			strings.Repeat("x", 16385), strings.Repeat("X", 16385), strings.Repeat("+", 16385), ":" + strings.Repeat("+", 16384), strings.Repeat("-", 16384)},
	}
	x := call(api.EVar, "x")
	y := call(api.PVar, "y")
	for _, c := range []struct {
		sorts string
		tree  func(string) api.Node
	}{
		{"con", func(s string) api.Node { return call(api.DMod, s, api.Node{}, node(api.List), node(api.List)) }},
		{"con", func(s string) api.Node {
			return call(api.DMod, "M", api.Node{}, node(api.List, call(api.DImport, s, api.Node{})), node(api.List))
		}},
		{"con var op", func(s string) api.Node {
			return call(api.DMod, "M", node(api.List, call(api.DItem, s)), node(api.List), node(api.List))
		}},
		{"con", func(s string) api.Node { return moduleOf(call(api.DData, s, node(api.List), node(api.List))) }},
		{"var", func(s string) api.Node {
			return moduleOf(call(api.DData, "T", node(api.List, call(api.TVar, s)), node(api.List)))
		}},
		{"con conop", func(s string) api.Node {
			return moduleOf(call(api.DData, "T", node(api.List), node(api.List, call(api.DCon, s, node(api.List)))))
		}},
		{"con", func(s string) api.Node { return moduleOf(call(api.DClass, s, call(api.TVar, "c"), node(api.List))) }},
		{"con", func(s string) api.Node {
			return moduleOf(call(api.DInst, s, node(api.List), call(api.TCon, "T"), node(api.List)))
		}},
		{"con unit types", func(s string) api.Node {
			return moduleOf(call(api.DInst, "C", node(api.List), call(api.TCon, s), node(api.List)))
		}},
		{"var op", func(s string) api.Node { return moduleOf(call(api.DFun, s, clauseOf(x))) }},
		{"var op", func(s string) api.Node { return withExp(call(api.EVar, s)) }},
		{"con conop unit", func(s string) api.Node { return withExp(call(api.ECon, s)) }},
		{"con conop unit", func(s string) api.Node { return withExp(call(api.EMake, s)) }},
		{"var op", func(s string) api.Node { return withExp(call(api.EMake, "C", call(api.EField, s, x))) }},
		{"var op", func(s string) api.Node { return withExp(node(api.EOps, x, call(api.EOp, s), x)) }},
		{"con conop", func(s string) api.Node {
			return withExp(node(api.EOps, x, api.Node{Kind: api.EOp, Name: s, N: 1}, x))
		}},
		{"nothing var con op conop unit types never", func(s string) api.Node { return withExp(call(api.EStr, s)) }},
		{"nothing", func(s string) api.Node { return withExp(call(api.EInt, s)) }},
		{"nothing", func(s string) api.Node { return withExp(call(api.EApp, s, x, x)) }},
		{"var op", func(s string) api.Node { return withPattern(call(api.PVar, s)) }},
		{"var", func(s string) api.Node { return withPattern(call(api.PAs, s, y)) }},
		{"con conop unit", func(s string) api.Node { return withPattern(call(api.PCon, s, y)) }},
		{"con conop unit", func(s string) api.Node { return withPattern(call(api.PMake, s)) }},
		{"con conop", func(s string) api.Node {
			return withPattern(node(api.POps, y, api.Node{Kind: api.EOp, Name: s, N: 1}, y))
		}},
		{"", func(s string) api.Node { return withPattern(node(api.POps, y, call(api.EOp, s), y)) }},
		{"nothing var con op conop unit types never", func(s string) api.Node { return withPattern(call(api.PStr, s)) }},
		{"nothing", func(s string) api.Node { return withPattern(call(api.PWild, s)) }},
		{"var", func(s string) api.Node { return withType(call(api.TVar, s)) }},
		{"con unit types", func(s string) api.Node { return withType(call(api.TCon, s)) }},
		{"nothing", func(s string) api.Node { return withType(call(api.TApp, s, call(api.TVar, "a"), call(api.TVar, "b"))) }},
	} {
		for sort, texts := range names {
			for _, text := range texts {
				wantRight(t, slices.Contains(strings.Fields(c.sorts), sort), c.tree(text))
			}
		}
	}
}

// P3.3: what the chapter names of Right trees in particular.
func TestRightInParticular(t *testing.T) {
	x, y := call(api.EVar, "x"), call(api.PVar, "y")
	none, list := api.Node{}, node(api.List)
	f := func(name string, clauses ...api.Node) api.Node { return call(api.DFun, name, clauses...) }
	guards := func(gs ...api.Node) api.Node {
		return moduleOf(f("f", node(api.DClause, list, node(api.DRhs, node(api.List, gs...), list))))
	}
	inInstance := func(d api.Node) api.Node {
		return moduleOf(call(api.DInst, "C", list, call(api.TCon, "T"), node(api.List, d)))
	}
	pattern := func(p api.Node) api.Node { return node(api.DPat, p, clauseOf(x).Subs[1]) }
	for _, n := range []api.Node{
		moduleOf(), withExp(x), withPattern(y),
		withExp(node(api.EPut, call(api.EMake, "C"), call(api.EField, "l", x))),
		moduleOf(pattern(node(api.PWild))), moduleOf(pattern(call(api.PCon, "C"))), moduleOf(pattern(call(api.PAs, "x", y))), moduleOf(pattern(number(api.PInt, 1))),
		withExp(node(api.EDo, x)), withExp(node(api.EDo, node(api.SGen, y, x), node(api.SLet, list), x)),
		moduleOf(f("f", clauseOf(x, y)), f("g", clauseOf(x, y)), f("f", clauseOf(x, y))),
		moduleOf(f("f", clauseOf(x)), f("f", clauseOf(x))), moduleOf(f("f", clauseOf(x, y)), f("f", clauseOf(x)), f("f", clauseOf(x, y))),
		moduleOf(f("f", clauseOf(x, y), clauseOf(x, y))), moduleOf(f("f", clauseOf(x, y)), pattern(node(api.PWild)), f("f", clauseOf(x, y))),
		guards(node(api.DGuard, none, x)), guards(node(api.DGuard, x, x)), guards(node(api.DGuard, x, x), node(api.DGuard, x, x)),
		withExp(number(api.EInt, math.MaxInt)), withPattern(number(api.PInt, math.MaxInt)), withExp(node(api.ECase, x)), inInstance(f("f", clauseOf(x))),
		withExp(call(api.EMake, "()", call(api.EField, "+", x))), withExp(call(api.EStr, strings.Repeat("x", 20000))),
	} {
		wantRight(t, true, n)
	}
	for _, n := range []api.Node{
		{}, node(api.DMod), call(api.DMod, "M"), x, y, list, call(api.DMod, "M", list, list), call(api.DMod, "M", none, list, list, list), call(api.DMod, "M", none, none, list),
		withExp(node(api.EPut, call(api.ECon, "C"), call(api.EField, "l", x))), withExp(node(api.EPut, x)),
		moduleOf(pattern(y)), moduleOf(pattern(x)), moduleOf(node(api.DPat)),
		withExp(node(api.EDo)), withExp(node(api.EDo, node(api.SGen, y, x))), withExp(node(api.EDo, x, node(api.SLet, list))),
		moduleOf(f("f", clauseOf(x, y)), f("f", clauseOf(x, y))), moduleOf(f("f", clauseOf(x, y)), f("f", clauseOf(x, y, y))),
		moduleOf(f("f")), moduleOf(f("f", clauseOf(x), clauseOf(x))), moduleOf(f("f", clauseOf(x, y), clauseOf(x))), moduleOf(f("f", clauseOf(x), clauseOf(x, y))), moduleOf(f("f", clauseOf(x, y), clauseOf(x, y, y))),
		guards(), guards(node(api.DGuard, none, x), node(api.DGuard, none, x)), guards(node(api.DGuard, none, x), node(api.DGuard, x, x)), guards(node(api.DGuard, x, x), node(api.DGuard, none, x)), guards(node(api.DGuard, x, none)), guards(node(api.DGuard, x)),
		withExp(number(api.EInt, -1)), withPattern(number(api.PInt, math.MinInt)), withExp(node(api.EWild)), withExp(call(api.EAs, "x", x)), withExp(y), withPattern(x), withExp(none), withExp(node(api.ECase)),
		inInstance(pattern(node(api.PWild))), inInstance(call(api.DData, "T", list, list)), moduleOf(call(api.DImport, "A", none)),
		withExp(node(api.ELam, list, x)), withExp(node(api.EOps, x)), withExp(node(api.EOps, x, call(api.EOp, "+"))), withExp(node(api.ETup, x)), withExp(node(api.ETup, x, x, x, x)),
	} {
		wantRight(t, false, n)
	}
}

// P3.3: positions are not looked at; an empty list may be nil or not.
func TestRightAnywhere(t *testing.T) {
	n := tree(t, api.Prelude)
	var scatter func(api.Node) api.Node
	scatter = func(n api.Node) api.Node {
		n.Line, n.Col = -n.Line*7, n.Col-99
		out := []api.Node{}
		for _, x := range n.Subs {
			out = append(out, scatter(x))
		}
		n.Subs = out
		return n
	}
	wantRight(t, true, scatter(n))
}

// P3.3: trees of any depth and any width, deeper than brackets may be.
func TestRightDeep(t *testing.T) {
	x, y, a := call(api.EVar, "x"), call(api.PVar, "y"), call(api.TVar, "a")
	for _, c := range []struct {
		whole func(api.Node) api.Node
		first api.Node
		next  func(api.Node) api.Node
	}{
		{withExp, x, func(n api.Node) api.Node { return node(api.EApp, n, x) }},
		{withExp, x, func(n api.Node) api.Node { return node(api.EApp, x, n) }},
		{withExp, x, func(n api.Node) api.Node { return node(api.ELam, node(api.List, y), n) }},
		{withExp, x, func(n api.Node) api.Node { return node(api.EList, n) }},
		{withExp, x, func(n api.Node) api.Node { return node(api.EDo, x, n) }},
		{withExp, x, func(n api.Node) api.Node {
			return node(api.ELet, node(api.List, call(api.DFun, "f", clauseOf(n))), x)
		}},
		{withExp, x, func(n api.Node) api.Node { return node(api.ECase, x, node(api.EAlt, y, clauseOf(n).Subs[1])) }},
		{withPattern, y, func(n api.Node) api.Node { return call(api.PCon, "C", y, n) }},
		{withPattern, y, func(n api.Node) api.Node { return call(api.PAs, "x", n) }},
		{withType, a, func(n api.Node) api.Node { return node(api.TApp, n, a) }},
		{withType, a, func(n api.Node) api.Node { return node(api.TApp, a, n) }},
	} {
		deep, wrong := c.first, node(api.None)
		for range 1 << 14 {
			deep, wrong = c.next(deep), c.next(wrong)
		}
		if !parse.Right(c.whole(deep)) || parse.Right(c.whole(wrong)) {
			t.Errorf("a deep tree: %s", say(c.next(c.first)))
		}
	}
	wide := make([]api.Node, 300000)
	for i := range wide {
		wide[i] = x
	}
	if !parse.Right(withExp(node(api.EList, wide...))) {
		t.Error("a wide tree is not Right")
	}
	wide[len(wide)-1] = y
	if parse.Right(withExp(node(api.EList, wide...))) {
		t.Error("a wide tree with a wrong end is Right")
	}
}

// R1: Right ends even for what has no end, or far too many nodes.
func TestRightEnds(t *testing.T) {
	for kind := range api.TApp + 1 {
		loop := call(kind, "", api.Node{}, api.Node{})
		loop.Subs[0], loop.Subs[1] = loop, loop
		parse.Right(loop)
	}
	for _, c := range []struct {
		whole func(api.Node) api.Node
		loop  api.Node
	}{
		{withExp, node(api.EApp, api.Node{}, call(api.EVar, "x"))},
		{withPattern, node(api.PList, api.Node{}, call(api.PVar, "x"))},
		{withType, node(api.TApp, api.Node{}, call(api.TVar, "x"))},
	} {
		c.loop.Subs[0] = c.loop
		parse.Right(c.whole(c.loop))
	}
	n := call(api.EVar, "x")
	for range 100 {
		n = node(api.EApp, n, n)
	}
	parse.Right(withExp(n))
}
