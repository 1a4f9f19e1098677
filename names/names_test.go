package names_test

import (
	"slices"
	"strconv"
	"strings"
	"testing"

	"teasel/api"
	"teasel/layout"
	"teasel/lex"
	"teasel/names"
	"teasel/parse"
)

const kindTexts = `None List DMod DImport DItem DData DCon DField DClass DMethod DInst DPred DFix DFun DClause DPat DRhs DGuard
EVar ECon EInt EStr EApp EOps EOp ELam ELet EIf ECase EAlt EDo ETup EList ELeft ERight EMake EPut EField EWild EAs
SGen SLet PVar PWild PInt PStr PCon POps PTup PList PAs PMake TVar TCon TApp`

var kindNames = strings.Fields(kindTexts)

// say is a tree with all that its nodes have: kinds, names, numbers,
// positions, parts.
func say(n api.Node) string {
	var b strings.Builder
	sayTo(&b, n)
	return b.String()
}

func sayTo(b *strings.Builder, n api.Node) {
	b.WriteString(kindNames[n.Kind] + " " + strconv.Quote(n.Name) + " " + strconv.Itoa(n.N))
	b.WriteString("@" + strconv.Itoa(n.Line) + "." + strconv.Itoa(n.Col) + "(")
	for _, sub := range n.Subs {
		sayTo(b, sub)
	}
	b.WriteString(")")
}

func sayTrees(trees []api.Node) string {
	var all []string
	for _, n := range trees {
		all = append(all, say(n))
	}
	return strings.Join(all, "\n")
}

// tree is that of a module's text.
func tree(t *testing.T, text string) api.Node {
	t.Helper()
	ts, d := lex.Read(text)
	if d == (api.Diag{}) {
		ts, d = layout.Lay(ts)
	}
	var n api.Node
	if d == (api.Diag{}) {
		n, d = parse.Parse(ts)
	}
	if d != (api.Diag{}) {
		t.Fatalf("%q: %+v", text, d)
	}
	return n
}

func trees(t *testing.T, texts ...string) []api.Node {
	t.Helper()
	var all []api.Node
	for _, text := range texts {
		all = append(all, tree(t, text))
	}
	return all
}

// namesIn is the names in a tree, in its order.
func namesIn(n api.Node) string {
	var all []string
	var walk func(api.Node)
	walk = func(n api.Node) {
		if n.Name != "" {
			all = append(all, n.Name)
		}
		for _, sub := range n.Subs {
			walk(sub)
		}
	}
	walk(n)
	return strings.Join(all, " ")
}

// nameless is a tree without its names.
func nameless(n api.Node) api.Node {
	n.Name = ""
	subs := make([]api.Node, 0, len(n.Subs))
	for _, sub := range n.Subs {
		subs = append(subs, nameless(sub))
	}
	n.Subs = subs
	return n
}

// resolved is what Resolve answers for trees in which nothing is wrong. Each
// answer must be its tree but for names, exports and imports.
func resolved(t *testing.T, mods ...api.Node) []api.Node {
	t.Helper()
	out, d := names.Resolve(mods...)
	if d != (api.Diag{}) {
		t.Fatalf("%s\n%+v", sayTrees(mods), d)
	}
	if len(out) != len(mods) {
		t.Fatalf("%d modules of %d", len(out), len(mods))
	}
	for _, n := range out {
		i := slices.IndexFunc(mods, func(m api.Node) bool { return m.Name == n.Name })
		if i < 0 || len(n.Subs) != 3 {
			t.Fatal("not a module of these: " + say(n))
		}
		want := mods[i]
		want.Subs = []api.Node{{Kind: api.None}, {Kind: api.List}, want.Subs[2]}
		if got, want := say(nameless(n)), say(nameless(want)); got != want {
			t.Fatalf("more than names was changed:\ngot  %s\nwant %s", got, want)
		}
	}
	return out
}

// wantNames holds that modules come in that order, with these names: first
// their own one, then those in their declarations.
func wantNames(t *testing.T, texts []string, want ...string) {
	t.Helper()
	var got []string
	for _, n := range resolved(t, trees(t, texts...)...) {
		got = append(got, namesIn(n))
	}
	if !slices.Equal(got, want) {
		t.Errorf("%q:\ngot  %s\nwant %s", texts, strings.Join(got, "\n     "), strings.Join(want, "\n     "))
	}
}

// wantIn holds that the declarations of a module A have these names.
func wantIn(t *testing.T, text, want string) {
	t.Helper()
	wantNames(t, []string{"module A where\n" + text}, "A "+want)
}

// wantLast holds that the module which comes last has these names, its own
// one left out.
func wantLast(t *testing.T, want string, texts ...string) {
	t.Helper()
	out := resolved(t, trees(t, texts...)...)
	last := out[len(out)-1]
	if got := strings.TrimPrefix(namesIn(last), last.Name+" "); got != want {
		t.Errorf("%q:\ngot  %s\nwant %s", texts, got, want)
	}
}

// P4.1: the chapter's examples.
func TestExamples(t *testing.T) {
	wantNames(t, []string{"module A where\nf x = g x x where g y = f", "module Main where\nimport A\nmain = f"},
		"A A.f x.1 g.2 x.1 x.1 g.2 y.3 A.f", "Main Main.main A.f")
	wantLast(t, "Main.f Main.f Main.g Main.f", "module A where\nf = 1", "module Main where\nimport A\nf = f\ng = f")
}

// P4.1: a whole tree, with its positions.
func TestWholeTree(t *testing.T) {
	out := resolved(t, tree(t, "module A (f) where\nimport Prim (Int)\nf x = 1 : x"))
	want := `DMod "A" 0@1.1(None "" 0@0.0()List "" 0@0.0()List "" 0@0.0(DFun "A.f" 0@3.1(DClause "" 0@3.1(` +
		`List "" 0@0.0(PVar "x.1" 0@3.3())DRhs "" 0@3.5(List "" 0@0.0(DGuard "" 0@3.5(None "" 0@0.0()` +
		`EOps "" 0@3.7(EInt "" 1@3.7()EOp "Prim.:" 1@3.9()EVar "x.1" 0@3.11())))List "" 0@0.0())))))`
	if got := say(out[0]); got != want {
		t.Errorf("got  %s\nwant %s", got, want)
	}
}

// P4.1: no modules are in order.
func TestNoModules(t *testing.T) {
	if out, d := names.Resolve(); len(out) != 0 || d != (api.Diag{}) {
		t.Error(out, d)
	}
}

// orderOf is the names of the modules as they come.
func orderOf(t *testing.T, texts ...string) string {
	t.Helper()
	var all []string
	for _, n := range resolved(t, trees(t, texts...)...) {
		all = append(all, n.Name)
	}
	return strings.Join(all, " ")
}

// P4.1: the order of modules.
func TestOrder(t *testing.T) {
	for _, c := range []struct{ modules, want string }{
		{"B A C", "A B C"},
		{"A:B B", "B A"},
		{"A:B B:C C", "C B A"},
		{"A:Z Z M", "M Z A"},
		{"A:Z Z:Y Y M", "M Y Z A"},
		{"A:M M Z B", "B M A Z"},
		{"D:B,C B:A C:A A", "A B C D"},
		{"A:C,C,C C D", "C A D"},
		{"A:Prim B:Prim,A C:A,Prim", "A B C"},
		{"AB A' A1 A_ Aa A AA", "A A' A1 AA AB A_ Aa"},
		{"A Prelude Z", "Prelude A Z"},
		{"A:Prelude Prelude B:A", "Prelude A B"},
		{"A:B B Prelude:Prim", "Prelude B A"},
		{"Zz:Prelude Prelude Pre", "Prelude Pre Zz"},
	} {
		var texts []string
		for _, m := range strings.Fields(c.modules) {
			name, imports, _ := strings.Cut(m, ":")
			text := "module " + name + " where\n"
			for _, i := range strings.FieldsFunc(imports, func(r rune) bool { return r == ',' }) {
				text += "import " + i + "\n"
			}
			texts = append(texts, text)
		}
		if got := orderOf(t, texts...); got != c.want {
			t.Errorf("%s: %s, not %s", c.modules, got, c.want)
		}
	}
}

// P4.1: own entities are values, constructors and types.
func TestOwn(t *testing.T) {
	for _, c := range [][2]string{
		{"f = f", "A.f A.f"},
		{"f x = 1\nf y = f", "A.f x.1 y.2 A.f"},
		{"a + b = (+)", "A.+ a.1 b.2 A.+"},
		{"data T a b = N | C a [b] | R { l :: a, (#) :: b } | (:+) b a",
			"A.T a b A.N A.C a Prim.[] b A.R A.l a A.# b A.:+ b a"},
		{"data T = T\ndata U = U T\nf T = T", "A.T A.T A.U A.U A.T A.f A.T A.T"},
		{"class C c where\n  m :: c -> T\n  (+) :: c\ndata T\nf = m + m",
			"A.C c A.m Prim.-> c A.T A.+ c A.T A.f A.m A.+ A.m"},
		{"(x, y@[z, _]) = (y, z)\nf = x", "A.x A.y A.z A.y A.z A.f A.x"},
		{"data R = R { l :: R, m :: R }\nf = l m\nR { l = x, m = R y z } = x y z",
			"A.R A.R A.l A.R A.m A.R A.f A.l A.m A.R A.l A.x A.m A.R A.y A.z A.x A.y A.z"},
		{"class K k\ninstance K T\ndata T = K\nf = K", "A.K k A.K A.T A.T A.K A.f A.K"},
		{"infixl 3 +, `f`, :+, `C`\ndata T = C | (:+)\nf = f\n(+) = f",
			"infixl A.+ A.f A.:+ A.C A.T A.C A.:+ A.f A.f A.+ A.f"},
		{"infix 3 `l`, `m`, `x`\ndata T = T { l :: T }\nclass C c where m :: c\n(x, y) = 1",
			"infix A.l A.m A.x A.T A.T A.l A.T A.C c A.m c A.x A.y"},
		{"primAdd = 1\nf = primAdd", "A.primAdd A.f A.primAdd"},
		{"data Bool = False | True\ndata Int = Int Bool\nf = True", "A.Bool A.False A.True A.Int A.Int A.Bool A.f A.True"},
	} {
		wantIn(t, c[0], c[1])
	}
}
