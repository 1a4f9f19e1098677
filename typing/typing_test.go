package typing_test

import (
	"slices"
	"strconv"
	"strings"
	"testing"

	"teasel/api"
	"teasel/layout"
	"teasel/lex"
	"teasel/parse"
	"teasel/typing"
)

func tree(t *testing.T, text string) api.Node {
	t.Helper()
	ts, d := lex.Read(text)
	if d == (api.Diag{}) {
		ts, d = layout.Lay(ts)
	}
	var n api.Node
	if d == (api.Diag{}) {
		n, d = parse.Parse(ts)
	}
	if d != (api.Diag{}) {
		t.Fatalf("%q: %+v", text, d)
	}
	return n
}

func explained(t *testing.T, takes int, text string) *typing.Program {
	t.Helper()
	p, d := typing.Explain(takes, tree(t, "module M where\n"+text), tree(t, api.Prelude))
	if d != (api.Diag{}) {
		t.Fatalf("%q: %+v", text, d)
	}
	return p
}

// teller tells dictionaries and types: those that are taken by the names of what
// takes them and their places, those of instances by classes and constructors.
type teller struct {
	*typing.Program
	takers map[*typing.Params]string
}

func (s teller) dict(d *typing.Arg) string {
	switch d.Kind {
	case typing.Taken:
		return s.takers[d.Params] + strconv.Itoa(d.At)
	case typing.Constructor:
		return d.Con
	case typing.Unknown:
		return "?"
	case typing.Applied:
		text := "(" + s.dict(d.Parts[0]) + " " + s.dict(d.Parts[1]) + ")"
		if d.Params != nil {
			text += " in " + s.takers[d.Params]
		}
		return text
	}
	_, class, _ := strings.Cut(d.Class, ".")
	_, con, _ := strings.Cut(d.Con, ".")
	text := class + " " + con
	for _, part := range d.Parts {
		text += " (" + s.dict(part) + ")"
	}
	if d.Params != nil {
		text += " in " + s.takers[d.Params]
	}
	return text
}

func (s teller) dicts(all []*typing.Arg) string {
	var texts []string
	for _, d := range all {
		texts = append(texts, s.dict(d))
	}
	return strings.Join(texts, ", ")
}

// walk tells what a tree takes and uses, in its order.
func (s teller) walk(n *api.Node, lines *[]string) {
	if p := s.Params[n]; p != nil {
		if s.takers[p] == "" {
			s.takers[p] = n.Name
		}
		*lines = append(*lines, n.Name+" takes "+strconv.Itoa(p.Count))
	}
	if all := s.Binds[n]; all != nil {
		*lines = append(*lines, ">>=: "+s.dicts(all))
	}
	if all := s.Uses[n]; all != nil {
		*lines = append(*lines, n.Name+": "+s.dicts(all))
	}
	for i := range n.Subs {
		s.walk(&n.Subs[i], lines)
	}
}

// Which dictionaries names take, and are given where they are used.
func TestExplain(t *testing.T) {
	for _, c := range []struct{ text, want string }{
		{"f x = x", ""},
		{"f = show 1", "Prelude.show: Show Int"},
		{"f x = show [x]", "M.f takes 1; Prelude.show: Show [] (M.f0) in M.f"},
		{"f x = show x == show (x, [x])", "M.f takes 1; Prelude.==: Eq [] (Eq Int); Prelude.show: M.f0; Prelude.show: Show (,) (M.f0) (Show [] (M.f0) in M.f) in M.f"},
		{"f x y = (x == x, show y, x == x)", "M.f takes 2; Prelude.==: M.f0; Prelude.show: M.f1; Prelude.==: M.f0"},
		{"f x = x == x\ng = f [1]\nh = (f True, f)", "M.f takes 1; Prelude.==: M.f0; M.f: Eq [] (Eq Int); M.h takes 1; M.f: Eq Bool; M.f: M.h0"},
		// a group: each use within it takes what the name around it takes
		{"f x = if x == x then g x else f x\ng x = f x", "M.f takes 1; Prelude.==: M.f0; M.g: M.f0; M.f: M.f0; M.g takes 1; M.f: M.f0"},
		// inner groups, and what they pass on
		{"f x = g x where { g y = (x == x, show y) }", "M.f takes 2; g.2: M.f1; g.2 takes 1; Prelude.==: M.f0; Prelude.show: g.20"},
		{"f x = g where { (g, h) = (x == x, show x) }", "M.f takes 2; Prelude.==: M.f1; Prelude.show: M.f0"},
		// open variables
		{"f = show []", "Prelude.show: Show [] (Show Int)"},
		{"f x = x where { y = show [] }", "Prelude.show: Show [] (Show Int)"},
		// statements, also those that are variables themselves
		{"f m = do { m; x <- m; return x }", "M.f takes 1; >>=: M.f0; >>=: M.f0; Prelude.return: M.f0"},
		{"f = do { m; m } where { m = return 1 }\ng = do { h; Just 1 }\nh = return 1", "M.f takes 1; >>=: M.f0; m.1: M.f0; m.1: M.f0; m.1 takes 1; Prelude.return: m.10; >>=: Monad Maybe; M.h: Monad Maybe; M.h takes 1; Prelude.return: M.h0"},
		// instances
		{"data T a = T a\ninstance Show a => Show (T a) where { show (T x) = show x ++ show [x] }", "Prelude.Show takes 1; Prelude.show: Prelude.Show0; Prelude.show: Show [] (Prelude.Show0) in Prelude.Show"},
		{"data T a b = T a b\ninstance (Show b, Eq a, Show b) => Show (T a b) where { show (T x y) = if x == x then show y else [] }", "Prelude.Show takes 2; Prelude.==: Prelude.Show1; Prelude.show: Prelude.Show0"},
		{"data T a b = T a b\ninstance (Show b, Eq a) => Show (T a b)", "Prelude.Show takes 2"},
	} {
		wantTold(t, typing.Dictionaries, c.text, c.want)
	}
}

// wantTold is for what names take, and are given where they are used.
func wantTold(t *testing.T, takes int, text, want string) {
	t.Helper()
	s := teller{explained(t, takes, text), map[*typing.Params]string{}}
	var lines []string
	for i := range s.Trees {
		if s.Trees[i].Name == "M" {
			s.walk(&s.Trees[i], &lines)
		}
	}
	if got := strings.Join(lines, "; "); got != want || s.TooMany {
		t.Errorf("%q:\ngot  %s\nwant %s", text, got, want)
	}
}

// Which types names take, and are given where they are used: one for each variable
// of their preds.
func TestExplainTypes(t *testing.T) {
	for _, c := range []struct{ text, want string }{
		{"f x = x", ""},
		{"f = show 1", "Prelude.show: Prim.Int"},
		{"f x = show [x]", "M.f takes 1; Prelude.show: (Prim.[] M.f0) in M.f"},
		{"f x = show x == show (x, [x])", "M.f takes 1; Prelude.==: (Prim.[] Prim.Int); Prelude.show: M.f0; Prelude.show: ((Prim.(,) M.f0) in M.f (Prim.[] M.f0) in M.f) in M.f"},
		// one for several preds
		{"f x y = ((x == x, show y), (x <= x, show x))", "M.f takes 2; Prelude.==: M.f0; Prelude.show: M.f1; Prelude.<=: M.f0; Prelude.show: M.f0"},
		// variables without preds, and types without instances
		{"f x y = show y\ng = f id", "M.f takes 1; Prelude.show: M.f0; M.g takes 1; M.f: M.g0"},
		{"data T f a = T (f a)\nf (T x) = x == x\ng y = f (T [y]) && f (T (Just 1))", "M.f takes 2; Prelude.==: (M.f0 M.f1) in M.f; M.g takes 1; M.f: Prim.[], M.g0; M.f: Prelude.Maybe, Prim.Int"},
		{"data N a = N\ndata T f a = T (f a)\ninstance Eq (N a) where { x == y = True }\nf (T x) = x == x\ng y = f (T (y N))\nh = g (\\n -> case n of { N -> N })", "Prelude.Eq takes 1; M.f takes 2; Prelude.==: (M.f0 M.f1) in M.f; M.g takes 2; M.f: M.g0, M.g1; M.g: M.N, ?"},
		{"data N a = N\ninstance Eq (N a) where { x == y = True }\ndata M a = M\nf x = N == const N (M, x, id)\ng x = [Just N, const Nothing x] == []", "Prelude.Eq takes 1; Prelude.==: (M.N ?); Prelude.==: (Prim.[] (Prelude.Maybe (M.N ?)))"},
		// variables that are applied
		{"f m x = m == return (x, 1)", "M.f takes 2; Prelude.==: (M.f0 ((Prim.(,) M.f1) in M.f Prim.Int) in M.f) in M.f; Prelude.return: M.f0"},
		{"f m = do { m; x <- m; return x }", "M.f takes 1; >>=: M.f0; >>=: M.f0; Prelude.return: M.f0"},
		// a group, inner groups, and what they pass on
		{"f x = if x == x then g x else f x\ng x = f x", "M.f takes 1; Prelude.==: M.f0; M.g: M.f0; M.f: M.f0; M.g takes 1; M.f: M.f0"},
		{"f x = g x where { g y = (x == x, show y, y == y) }", "M.f takes 1; g.2: M.f0; g.2 takes 1; Prelude.==: M.f0; Prelude.show: g.20; Prelude.==: g.20"},
		{"f m = g m 1 where { g k x = (m >>= \\y -> return x) == k }\nh = f [3]", "M.f takes 1; g.2: Prim.Int; g.2 takes 1; Prelude.==: (M.f0 g.20) in g.2; Prelude.>>=: M.f0; Prelude.return: M.f0; M.f: Prim.[]"},
		{"f x = g where { (g, h) = (x == x, show x) }", "M.f takes 1; Prelude.==: M.f0; Prelude.show: M.f0"},
		// what is open
		{"f = show []", "Prelude.show: (Prim.[] Prim.Int)"},
		{"f x = x where { y = show [] }", "Prelude.show: (Prim.[] Prim.Int)"},
		// instances take all arguments of their types
		{"data T a b = T a b\ninstance Show b => Show (T a b) where { show (T x y) = show [y] }", "Prelude.Show takes 2; Prelude.show: (Prim.[] Prelude.Show1) in Prelude.Show"},
		{"data T a b = T a b\ninstance Functor (T a) where { fmap f (T x y) = T x (f y) }\nf g = fmap g (T 1 2)", "Prelude.Functor takes 1; Prelude.fmap: (M.T Prim.Int)"},
		{"data T a = T a\ninstance Show a => Show (T a) where { show (T x) = g x ++ g [x] where { g y = show (x, y) } }", "Prelude.Show takes 1; g.2: Prelude.Show0; g.2: (Prim.[] Prelude.Show0) in Prelude.Show; g.2 takes 1; Prelude.show: ((Prim.(,) Prelude.Show0) in Prelude.Show g.20) in g.2"},
	} {
		wantTold(t, typing.Types, c.text, c.want)
	}
}

// Beyond a bound not all is told.
func TestTooMany(t *testing.T) {
	text := "module M where\nf0 x = (show x, x == x)\n"
	for i := range 7 {
		at, before := strconv.Itoa(i+1), strconv.Itoa(i)
		text += "f" + at + " (x, y) = const 1 [f" + before + " x, f" + before + " y]\n"
	}
	m, prelude := tree(t, text+"x = const f7 []\n"), tree(t, api.Prelude)
	last := &m.Subs[2].Subs[8].Subs[0].Subs[1].Subs[0].Subs[0].Subs[1].Subs[1]
	if last.Kind != api.EList {
		t.Fatal(last.Kind)
	}
	for times, want := range map[int]bool{3000: false, 4100: true} { // 256 preds each time
		last.Subs = slices.Repeat([]api.Node{{Kind: api.EVar, Name: "f7"}}, times)
		for takes, want := range map[int]bool{typing.Dictionaries: want, typing.Types: false} {
			p, d := typing.Explain(takes, m, prelude)
			if d != (api.Diag{}) || p.TooMany != want {
				t.Error(times, takes, d)
			}
		}
	}
}

// What a name takes as an IO of an Int.
func TestAction(t *testing.T) {
	const class = "class C a where { c :: a }\nclass D a where { d :: a }\ninstance C a => C (IO a) where { c = return c }\ninstance C Int where { c = 1 }\n"
	for _, c := range []struct {
		text, want, types string
	}{
		{"main = getByte", "", ""},
		{"main = return 1", "Monad IO", "Prim.IO"},
		{"main = error", "", ""},
		{"main = 1", "none", "none"},
		{"main = return True", "none", "none"},
		{"main x = getByte", "none", "none"},
		{class + "main = c", "C IO (C Int)", "(Prim.IO Prim.Int)"},
		{class + "main = d", "none", "none"},
		{class + "main = fmap id (return c)", "C Int, Functor IO, Monad IO", "Prim.IO, Prim.Int"},
		{class + "main = fmap id (return d)", "none", "none"},
		{"class C a where { main :: a }\ninstance C (IO a)", "C IO", "(Prim.IO Prim.Int)"},
		{"class C a where { main :: a }\ninstance C Int", "none", "none"},
		{"data T = T { main :: IO Int }", "none", "none"},
	} {
		for takes, want := range map[int]string{typing.Dictionaries: c.want, typing.Types: c.types} {
			p := explained(t, takes, c.text)
			args, ok := p.Action("M.main")
			var got []string
			for _, a := range args {
				got = append(got, teller{p, nil}.dict(a))
			}
			slices.Sort(got)
			if text := strings.Join(got, ", "); ok && text != want || !ok && text+"none" != want {
				t.Errorf("%q: got %q %v, want %s", c.text, text, ok, want)
			}
		}
	}
}

// Without dictionaries there are the same types, and errors.
func TestInfer(t *testing.T) {
	p, d := typing.Infer(tree(t, "module M where\nf x = show [x]\n(a, b) = (1, f)"), tree(t, api.Prelude))
	if d != (api.Diag{}) || p.Uses != nil || p.Binds != nil || p.Params != nil {
		t.Fatal(d)
	}
	for i := range p.Trees {
		if p.Trees[i].Name != "M" {
			continue
		}
		if names := typing.Names(&p.Trees[i]); strings.Join(names, " ") != "M.f M.a M.b" || p.Text("M.f") != "Show a => a -> [Int]" || p.Text("M.a") != "Int" || p.Text("M.b") != "Int -> [Int]" {
			t.Error(names)
		}
	}
	for _, text := range []string{"f = x", "f = 1 1", "f = show id"} {
		m, prelude := tree(t, "module M where\n"+text), tree(t, api.Prelude)
		p, d := typing.Infer(m, prelude)
		q, again := typing.Explain(typing.Dictionaries, m, prelude)
		if p != nil || q != nil || d != again || d.Number == api.OK || d.File != "M" {
			t.Errorf("%q: %+v, %+v", text, d, again)
		}
	}
}
