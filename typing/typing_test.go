package typing_test

import (
	"slices"
	"strconv"
	"strings"
	"testing"

	"teasel/api"
	"teasel/layout"
	"teasel/lex"
	"teasel/parse"
	"teasel/typing"
)

func tree(t *testing.T, text string) api.Node {
	t.Helper()
	ts, d := lex.Read(text)
	if d == (api.Diag{}) {
		ts, d = layout.Lay(ts)
	}
	var n api.Node
	if d == (api.Diag{}) {
		n, d = parse.Parse(ts)
	}
	if d != (api.Diag{}) {
		t.Fatalf("%q: %+v", text, d)
	}
	return n
}

func explained(t *testing.T, text string) *typing.Program {
	t.Helper()
	p, d := typing.Explain(tree(t, "module M where\n"+text), tree(t, api.Prelude))
	if d != (api.Diag{}) {
		t.Fatalf("%q: %+v", text, d)
	}
	return p
}

// teller tells dictionaries: those that are taken by the names of what takes them
// and their places, those of instances by classes and constructors.
type teller struct {
	*typing.Program
	takers map[*typing.Params]string
}

func (s teller) dict(d *typing.Dict) string {
	if d.Class == "" {
		return s.takers[d.Params] + strconv.Itoa(d.At)
	}
	_, class, _ := strings.Cut(d.Class, ".")
	_, con, _ := strings.Cut(d.Con, ".")
	text := class + " " + con
	for _, part := range d.Parts {
		text += " (" + s.dict(part) + ")"
	}
	if d.Params != nil {
		text += " in " + s.takers[d.Params]
	}
	return text
}

func (s teller) dicts(all []*typing.Dict) string {
	var texts []string
	for _, d := range all {
		texts = append(texts, s.dict(d))
	}
	return strings.Join(texts, ", ")
}

// walk tells what a tree takes and uses, in its order.
func (s teller) walk(n *api.Node, lines *[]string) {
	if p := s.Params[n]; p != nil {
		if s.takers[p] == "" {
			s.takers[p] = n.Name
		}
		*lines = append(*lines, n.Name+" takes "+strconv.Itoa(p.Count))
	}
	if all := s.Binds[n]; all != nil {
		*lines = append(*lines, ">>=: "+s.dicts(all))
	}
	if all := s.Uses[n]; all != nil {
		*lines = append(*lines, n.Name+": "+s.dicts(all))
	}
	for i := range n.Subs {
		s.walk(&n.Subs[i], lines)
	}
}

// Which dictionaries names take, and are given where they are used.
func TestExplain(t *testing.T) {
	for _, c := range []struct{ text, want string }{
		{"f x = x", ""},
		{"f = show 1", "Prelude.show: Show Int"},
		{"f x = show [x]", "M.f takes 1; Prelude.show: Show [] (M.f0) in M.f"},
		{"f x = show x == show (x, [x])", "M.f takes 1; Prelude.==: Eq [] (Eq Int); Prelude.show: M.f0; Prelude.show: Show (,) (M.f0) (Show [] (M.f0) in M.f) in M.f"},
		{"f x y = (x == x, show y, x == x)", "M.f takes 2; Prelude.==: M.f0; Prelude.show: M.f1; Prelude.==: M.f0"},
		{"f x = x == x\ng = f [1]\nh = (f True, f)", "M.f takes 1; Prelude.==: M.f0; M.f: Eq [] (Eq Int); M.h takes 1; M.f: Eq Bool; M.f: M.h0"},
		// a group: each use within it takes what the name around it takes
		{"f x = if x == x then g x else f x\ng x = f x", "M.f takes 1; Prelude.==: M.f0; M.g: M.f0; M.f: M.f0; M.g takes 1; M.f: M.f0"},
		// inner groups, and what they pass on
		{"f x = g x where { g y = (x == x, show y) }", "M.f takes 2; g.2: M.f1; g.2 takes 1; Prelude.==: M.f0; Prelude.show: g.20"},
		{"f x = g where { (g, h) = (x == x, show x) }", "M.f takes 2; Prelude.==: M.f1; Prelude.show: M.f0"},
		// open variables
		{"f = show []", "Prelude.show: Show [] (Show Int)"},
		{"f x = x where { y = show [] }", "Prelude.show: Show [] (Show Int)"},
		// statements, also those that are variables themselves
		{"f m = do { m; x <- m; return x }", "M.f takes 1; >>=: M.f0; >>=: M.f0; Prelude.return: M.f0"},
		{"f = do { m; m } where { m = return 1 }\ng = do { h; Just 1 }\nh = return 1", "M.f takes 1; >>=: M.f0; m.1: M.f0; m.1: M.f0; m.1 takes 1; Prelude.return: m.10; >>=: Monad Maybe; M.h: Monad Maybe; M.h takes 1; Prelude.return: M.h0"},
		// instances
		{"data T a = T a\ninstance Show a => Show (T a) where { show (T x) = show x ++ show [x] }", "Prelude.Show takes 1; Prelude.show: Prelude.Show0; Prelude.show: Show [] (Prelude.Show0) in Prelude.Show"},
		{"data T a b = T a b\ninstance (Show b, Eq a, Show b) => Show (T a b) where { show (T x y) = if x == x then show y else [] }", "Prelude.Show takes 2; Prelude.==: Prelude.Show1; Prelude.show: Prelude.Show0"},
		{"data T a b = T a b\ninstance (Show b, Eq a) => Show (T a b)", "Prelude.Show takes 2"},
	} {
		s := teller{explained(t, c.text), map[*typing.Params]string{}}
		var lines []string
		for i := range s.Trees {
			if s.Trees[i].Name == "M" {
				s.walk(&s.Trees[i], &lines)
			}
		}
		if got := strings.Join(lines, "; "); got != c.want {
			t.Errorf("%q:\ngot  %s\nwant %s", c.text, got, c.want)
		}
	}
}

// What a name takes as an IO of an Int.
func TestAction(t *testing.T) {
	const class = "class C a where { c :: a }\nclass D a where { d :: a }\ninstance C a => C (IO a) where { c = return c }\ninstance C Int where { c = 1 }\n"
	for _, c := range []struct {
		text string
		want string
	}{
		{"main = getByte", ""},
		{"main = return 1", "Monad IO"},
		{"main = error", ""},
		{"main = 1", "none"},
		{"main = return True", "none"},
		{"main x = getByte", "none"},
		{class + "main = c", "C IO (C Int)"},
		{class + "main = d", "none"},
		{class + "main = fmap id (return c)", "C Int, Functor IO, Monad IO"},
		{class + "main = fmap id (return d)", "none"},
		{"class C a where { main :: a }\ninstance C (IO a)", "C IO"},
		{"class C a where { main :: a }\ninstance C Int", "none"},
		{"data T = T { main :: IO Int }", "none"},
	} {
		p := explained(t, c.text)
		dicts, ok := p.Action("M.main")
		var got []string
		for _, d := range dicts {
			got = append(got, sayDict(d))
		}
		slices.Sort(got)
		if text := strings.Join(got, ", "); ok && text != c.want || !ok && text+"none" != c.want {
			t.Errorf("%q: got %q %v, want %s", c.text, text, ok, c.want)
		}
	}
}

func sayDict(d *typing.Dict) string {
	_, class, _ := strings.Cut(d.Class, ".")
	_, con, _ := strings.Cut(d.Con, ".")
	text := class + " " + con
	for _, part := range d.Parts {
		text += " (" + sayDict(part) + ")"
	}
	return text
}

// Without dictionaries there are the same types, and errors.
func TestInfer(t *testing.T) {
	p, d := typing.Infer(tree(t, "module M where\nf x = show [x]\n(a, b) = (1, f)"), tree(t, api.Prelude))
	if d != (api.Diag{}) || p.Uses != nil || p.Binds != nil || p.Params != nil {
		t.Fatal(d)
	}
	for i := range p.Trees {
		if p.Trees[i].Name != "M" {
			continue
		}
		if names := typing.Names(&p.Trees[i]); strings.Join(names, " ") != "M.f M.a M.b" || p.Text("M.f") != "Show a => a -> [Int]" || p.Text("M.a") != "Int" || p.Text("M.b") != "Int -> [Int]" {
			t.Error(names)
		}
	}
	for _, text := range []string{"f = x", "f = 1 1", "f = show id"} {
		m, prelude := tree(t, "module M where\n"+text), tree(t, api.Prelude)
		p, d := typing.Infer(m, prelude)
		q, again := typing.Explain(m, prelude)
		if p != nil || q != nil || d != again || d.Number == api.OK || d.File != "M" {
			t.Errorf("%q: %+v, %+v", text, d, again)
		}
	}
}
