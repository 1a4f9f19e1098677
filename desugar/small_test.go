package desugar_test

import (
	"strconv"
	"strings"
	"testing"

	"teasel/api"
	"teasel/core"
	"teasel/desugar"
)

// stretch makes all texts 100 bytes long, and answers how many nodes there are.
func stretch(n *api.Node) int {
	if n.Kind == api.EStr || n.Kind == api.PStr {
		n.Name = strings.Repeat("x", 100)
	}
	count := 1
	for i := range n.Subs {
		count += stretch(&n.Subs[i])
	}
	return count
}

// filled is a text with as many of a part in place of BAD, separated, as a small
// program can have.
func filled(t *testing.T, text, part, separator string) api.Node {
	t.Helper()
	var best api.Node
	for count := 1; ; count++ {
		var parts []string
		for i := range count {
			parts = append(parts, strings.ReplaceAll(part, "%", strconv.Itoa(i)))
		}
		n := tree(t, whole(replaced(text, strings.Join(parts, separator))))
		if stretch(&n) > 300 {
			return best
		}
		best = n
	}
}

// nested is a text with as many of two parts around the core in place of BAD.
func nested(t *testing.T, text, left, core, right string) api.Node {
	t.Helper()
	var best api.Node
	for count := 1; ; count++ {
		n := tree(t, whole(replaced(text, many(count, left)+core+many(count, right))))
		if stretch(&n) > 300 {
			return best
		}
		best = n
	}
}

// wantSmall is for a program that Lint accepts. Names of types that are too big
// are ErrTypes: there are fewer parts then.
func wantSmall(t *testing.T, what string, n api.Node) {
	t.Helper()
	if _, d := desugar.Core(n, tree(t, api.Prelude)); d != (api.Diag{}) {
		t.Errorf("%s: %+v", what, d)
	}
}

// Programs of up to 300 nodes with Names of up to 100 bytes are never too great or
// too deep, whatever they consist of.
func TestSmallPrograms(t *testing.T) {
	for _, c := range []struct{ text, part, separator string }{
		{"x = [BAD]", "\"a\"", ","},
		{"x = BAD", "\"a\"", "++"},
		{"x [BAD] = 1", "\"a\"", ","},
		{"x [BAD] = 1", "(\"a\",1)", ","},
		{"x [BAD] = 1", "[\"a\"]", ","},
		{"x [BAD] = 1", "(\"a\",y%)", ","},
		{"x [BAD] = 1", "y%@\"a\"", ","},
		{"x [BAD] = 1", "y%,\"a\"", ","},
		{"x [BAD] = 1", "\"a\",\"a\",_", ","},
		{"x (BAD:_) = 1", "\"a\"", ":"},
		{"x (BAD:[]) = 1", "\"a\":y%", ":"},
		{"[BAD] = []", "x%", ","},
		{"[BAD] = []", "x%,\"a\"", ","},
		{"[BAD] = []", "\"a\",x%,\"a\"", ","},
		{"[BAD,x] = []", "\"a\"", ","},
		{"[BAD] = []", "x%@y%", ","},
		{"[BAD] = []", "x%@\"a\"", ","},
		{"[BAD] = []", "x%@y%@\"a\"", ","},
		{"(BAD) = []", "x%", ":"},
		{"x = let { BAD } in 1", "\"a\" = \"a\"", ";"},
		{"x = let { BAD } in 1", "y%@\"a\" = \"a\"", ";"},
		{"x = do { BAD; m }\nm = []", "m", ";"},
		{"x = do { BAD; m }\nm = []", "\"a\"", ";"},
		{"x = do { BAD; m }\nm = []", "\"a\" <- m", ";"},
		{"x = do { BAD; m }\nm = []", "(\"a\",\"a\") <- m", ";"},
		{"x = do { BAD; m }\nm = []", "y%@\"a\" <- m", ";"},
		{"x = do { BAD; m }\nm = []", "1 <- m", ";"},
		{"x = do { BAD; m }\nm = []", "[y%] <- m", ";"},
		{"x = do { BAD; m }\nm = []", "let { y% = m }", ";"},
		{"x BAD", "| True = 2", " "},
		{"x BAD", "| x == \"a\" = \"a\"", " "},
		{"x [BAD] = 1", "1", ","},
		{"x [BAD] = 1", "[1]", ","},
		{"BAD", "x \"a\" = 1", "\n"},
		{"BAD", "x \"a\" | x \"a\" == 1 = 1", "\n"},
		{"BAD", "x (\"a\":_) = 1", "\n"},
		{"x y = case y of { BAD }", "\"a\" -> 1", ";"},
		{"x y = case y of { BAD }", "[\"a\",\"a\"] -> 1", ";"},
		{"x = [BAD]", "(+)", ","},
		{"data T = T" + many(99, " Int") + "\nx = [BAD]", "T", ","},
		{"data T = C" + many(99, " Int") + "\nx = [BAD]", "C {}", ","},
		{"data T = C { z :: T" + numbered(60, ", z% :: Int") + " }\nx y = [BAD]", "y { z = y }", ","},
		{"data C = C { " + numbered(44, "z% :: [Int],") + "z :: Int }\nx C { " + numbered(43, "z% = \"a\",") + "z = 1 } = BAD", "\"a\"", "++"},
		{"data C = C { " + numbered(44, "z% :: [Int],") + "z :: Int }\nx = C { " + numbered(43, "z% = \"a\",") + "z = 1, z44 = BAD }", "\"a\"", "++"},
	} {
		wantSmall(t, c.text+" with "+c.part, filled(t, "main = return 1\n"+c.text, c.part, c.separator))
	}
	for _, c := range []struct{ text, left, core, right string }{
		{"x = BAD", "\\\"a\" -> ", "1", ""},
		{"x = BAD", "\\y -> ", "1", ""},
		{"x = BAD", "\\1 -> ", "1", ""},
		{"x = BAD", "\\[\"a\",y,\"a\"] -> ", "1", ""},
		{"x = BAD", "if True then 1 else ", "1", ""},
		{"x y = BAD", "case y of \"a\" -> ", "1", ""},
		{"x y = BAD", "case y of \"a\" | True -> ", "1", ""},
		{"x y = BAD", "let y = 1 in ", "1", ""},
		{"x y = BAD", "let \"a\" = \"a\" in ", "1", ""},
	} {
		wantSmall(t, c.text+" with "+c.left, nested(t, "main = return 1\n"+c.text, c.left, c.core, c.right))
	}
}

// Deeper trees than texts can be.
func TestSmallDeepTrees(t *testing.T) {
	text := api.Node{Kind: api.EStr, Name: strings.Repeat("a", 100)}
	pattern := api.Node{Kind: api.PStr, Name: strings.Repeat("a", 100)}
	for what, c := range map[string]struct {
		core  api.Node
		cost  int
		grown func(n api.Node) api.Node
	}{
		"lists":  {text, 1, func(n api.Node) api.Node { return api.Node{Kind: api.EList, Subs: []api.Node{n}} }},
		"tuples": {text, 2, func(n api.Node) api.Node { return api.Node{Kind: api.ETup, Subs: []api.Node{n, text}} }},
		"calls": {text, 2, func(n api.Node) api.Node {
			return api.Node{Kind: api.EApp, Subs: []api.Node{{Kind: api.EVar, Name: "id"}, n}}
		}},
		"sums": {text, 3, func(n api.Node) api.Node {
			return api.Node{Kind: api.EOps, Subs: []api.Node{text, {Kind: api.EOp, Name: "++"}, n}}
		}},
		"others": {text, 3, func(n api.Node) api.Node {
			return api.Node{Kind: api.EOps, Subs: []api.Node{n, {Kind: api.EOp, Name: "++"}, text}}
		}},
		"lambdas": {text, 3, func(n api.Node) api.Node {
			return api.Node{Kind: api.ELam, Subs: []api.Node{{Kind: api.List, Subs: []api.Node{pattern}}, n}}
		}},
		"actions": {text, 3, func(n api.Node) api.Node { return api.Node{Kind: api.EDo, Subs: []api.Node{text, n}} }},
		"binds": {text, 4, func(n api.Node) api.Node {
			return api.Node{Kind: api.EDo, Subs: []api.Node{{Kind: api.SGen, Subs: []api.Node{{Kind: api.PInt, N: 1}, text}}, n}}
		}},
	} {
		n := tree(t, "module Main where\nmain = return 1\nx = 1")
		at := &n.Subs[2].Subs[1].Subs[0].Subs[1].Subs[0].Subs[0].Subs[1]
		*at = c.core
		for count := stretch(&n); count+c.cost <= 300; count += c.cost {
			*at = c.grown(*at)
		}
		if _, d := desugar.Core(n, tree(t, api.Prelude)); d.Number != api.OK && d.Number != api.ErrType {
			t.Errorf("%s: %+v", what, d)
		} else if d.Number == api.ErrType && what != "lists" && what != "tuples" && what != "lambdas" {
			t.Errorf("%s: %+v", what, d)
		}
	}
}

// Dictionaries of great types, and of many of them, are made once.
func TestSmallDictionaries(t *testing.T) {
	const text = "f7 (k (k (k (k (k (k (k "
	functions := "f0 x = show x\n" + numbered2(7, "f% (x, y) = f& x ++ f& y\n")
	for _, c := range []string{
		functions + "k x = (x, x)\nx = [" + text + "1)))))))," + text + "(k (k (k True))))))))))," + text + "(k (k [1])))))))))]",
		functions + "x = [" + many(90, "f7,") + "f7]",
		"g0 x = show x == show x && x == x && x <= x\n" + numbered2(6, "g% (x, y) = if g& x then g& y else False\n") + "x = [" + many(100, "g6,") + "g6]",
		"x0 = (1, 2)\n" + numbered2(5, "x% = (x&, x&)\n") + "x = [" + many(60, "show x5,") + "show x5]",
		"class L m where { l :: m a -> m [a]; k :: m a -> m (Maybe a) }\nclass S a where { s :: a -> Int }\nh0 x = s x\n" + numbered2(9, "h% x = h& (l x) + h& (k x)\n"),
	} {
		n := tree(t, whole("main = return 1\n"+c))
		if count := stretch(&n); count > 300 {
			t.Errorf("%.60s: %d nodes", c, count)
		}
		wantSmall(t, c[:40], n)
	}
}

// Names of however many preds, however often and wherever they are used, make no
// program that is too great.
func TestSmallPreds(t *testing.T) {
	const class = "class L m where { l :: m a -> m [a]; k :: m a -> m (Maybe a) }\n"
	lists := "h0 x = (show x, x == x, x <= x)\n" + numbered2(4, "h% x = [h& (l x), h& (k x)]\n")
	truths := func(last int) string {
		return "h0 x = x == x && x <= x\n" + numbered2(last, "h% x = if h& (l x) then h& (k x) else False\n")
	}
	pairs := strings.ReplaceAll(numbered2(6, "g% (x, y) = [g& x, g& y]\n"), "g0", "h4")
	triples := func(of string, last int) string {
		return strings.ReplaceAll(numbered2(last, "g% = (g&, g&, g&)\n"), "g0", of)
	}
	listed := func(count int, name string) string { return "[" + many(count-1, name+", ") + name + "]" }
	inner := strings.ReplaceAll(truths(5)+triples("h5", 3), "\n", "; ")
	for what, c := range map[string]string{
		"pairs":     lists + pairs + "x = " + listed(40, "g6"),
		"triples":   truths(5) + triples("h5", 3) + "x = " + listed(60, "g3"),
		"many":      truths(4) + triples("h4", 4) + "x = " + listed(95, "g4"),
		"very many": truths(8) + triples("h8", 4) + "x = " + listed(16, "g4"),
		// for several types of their own
		"types":       truths(5) + triples("h5", 2) + "t f x = f (l x)\nx (f, g) = h5 (k g)\ny = h5 . l . k . l . l . k . k . l\nz = " + listed(30, "g2") + "\nv = t (t h5)",
		"of one name": truths(6) + "x f = " + "[h6 (f 1), h6 (l (f 1)), h6 (k (f 1)), h6 (k (l (f 1))), h6 (l (l (f 1))), h6 (k (k (f 1)))]",
		"great types": "class M m where { n :: m a -> m (Either a [Maybe (a, [a])]) }\n" + strings.ReplaceAll(truths(5), "k", "n") + triples("h5", 3) + "x = " + listed(58, "g3"),
		// in declarations within others, and in a DInst
		"local":   "x = " + listed(60, "g3") + " where { " + inner + "}",
		"a DInst": "instance Show (a -> b) where { show f = [] where { " + inner + "; x = " + listed(60, "g3") + " } }",
	} {
		n := tree(t, whole("main = return 1\n"+class+c))
		if count := stretch(&n); count > 300 {
			t.Errorf("%s: %d nodes", what, count)
		}
		p, d := desugar.Core(n, tree(t, api.Prelude))
		if d != (api.Diag{}) || core.Lint(p) != api.OK {
			t.Errorf("%s: %+v", what, d)
		} else if got := run(p, ""); got != done(1) {
			t.Errorf("%s: %+v", what, got)
		}
	}
}

// numbered2 is texts with numbers from 1 on, and from 0 on, in place of two signs.
func numbered2(count int, text string) string {
	var all strings.Builder
	for i := range count {
		all.WriteString(strings.NewReplacer("%", strconv.Itoa(i+1), "&", strconv.Itoa(i)).Replace(text))
	}
	return all.String()
}
