package fix_test

import (
	"slices"
	"strconv"
	"strings"
	"testing"

	"teasel/api"
	"teasel/fix"
	"teasel/layout"
	"teasel/lex"
	"teasel/parse"
)

const kindTexts = `None List DMod DImport DItem DData DCon DField DClass DMethod DInst DPred DFix DFun DClause DPat DRhs DGuard
EVar ECon EInt EStr EApp EOps EOp ELam ELet EIf ECase EAlt EDo ETup EList ELeft ERight EMake EPut EField EWild EAs
SGen SLet PVar PWild PInt PStr PCon POps PTup PList PAs PMake TVar TCon TApp`

var kindNames = strings.Fields(kindTexts)

// say is a tree with all that its nodes have: kinds, names, numbers,
// positions, parts.
func say(n api.Node) string {
	var b strings.Builder
	sayTo(&b, n)
	return b.String()
}

func sayTo(b *strings.Builder, n api.Node) {
	b.WriteString(kindNames[n.Kind] + " " + strconv.Quote(n.Name) + " " + strconv.Itoa(n.N))
	b.WriteString("@" + strconv.Itoa(n.Line) + "." + strconv.Itoa(n.Col) + "(")
	for _, sub := range n.Subs {
		sayTo(b, sub)
	}
	b.WriteString(")")
}

func sayTrees(trees []api.Node) string {
	var all []string
	for _, n := range trees {
		all = append(all, say(n))
	}
	return strings.Join(all, "\n")
}

// brief is an expression or a pattern with its resolved names: applications
// in brackets, the function first; constructors with patterns in braces.
func brief(n api.Node) string {
	switch n.Kind {
	case api.EVar, api.ECon, api.PVar:
		return n.Name
	case api.EInt, api.PInt:
		return strconv.Itoa(n.N)
	case api.EApp:
		var arguments []string
		for n.Kind == api.EApp {
			arguments = append(arguments, brief(n.Subs[1]))
			n = n.Subs[0]
		}
		slices.Reverse(arguments)
		return "(" + brief(n) + " " + strings.Join(arguments, " ") + ")"
	case api.PCon:
		if len(n.Subs) == 0 {
			return n.Name
		}
		return "{" + n.Name + " " + briefs(n.Subs) + "}"
	}
	return kindNames[n.Kind] + "[" + briefs(n.Subs) + "]"
}

func briefs(nodes []api.Node) string {
	var all []string
	for _, n := range nodes {
		all = append(all, brief(n))
	}
	return strings.Join(all, " ")
}

// tree is that of a module's text.
func tree(t *testing.T, text string) api.Node {
	t.Helper()
	ts, d := lex.Read(text)
	if d == (api.Diag{}) {
		ts, d = layout.Lay(ts)
	}
	var n api.Node
	if d == (api.Diag{}) {
		n, d = parse.Parse(ts)
	}
	if d != (api.Diag{}) {
		t.Fatalf("%q: %+v", text, d)
	}
	return n
}

func trees(t *testing.T, texts ...string) []api.Node {
	t.Helper()
	var all []api.Node
	for _, text := range texts {
		all = append(all, tree(t, text))
	}
	return all
}

// every tells pointers to all nodes of modules.
func every(nodes []api.Node, tell func(*api.Node)) {
	for i := range nodes {
		tell(&nodes[i])
		every(nodes[i].Subs, tell)
	}
}

// mended is what Mend answers for trees in which nothing is wrong. It must
// have no sequence, operator or fixity left.
func mended(t *testing.T, mods ...api.Node) []api.Node {
	t.Helper()
	out, d := fix.Mend(mods...)
	if d != (api.Diag{}) {
		t.Fatalf("%s\n%+v", sayTrees(mods), d)
	}
	if len(out) != len(mods) {
		t.Fatalf("%d modules of %d", len(out), len(mods))
	}
	every(out, func(n *api.Node) {
		switch n.Kind {
		case api.EOps, api.POps, api.EOp, api.DFix:
			t.Fatal("left as it was: " + say(*n))
		}
	})
	return out
}

// lastClause is the first clause of the last declaration of the last module.
func lastClause(t *testing.T, texts ...string) api.Node {
	t.Helper()
	out := mended(t, trees(t, texts...)...)
	declarations := out[len(out)-1].Subs[2].Subs
	return declarations[len(declarations)-1].Subs[0]
}

// bodyOf is the last right side, in brief.
func bodyOf(t *testing.T, texts ...string) string {
	t.Helper()
	return brief(lastClause(t, texts...).Subs[1].Subs[0].Subs[0].Subs[1])
}

// patternsOf is the patterns of the last clause, in brief.
func patternsOf(t *testing.T, texts ...string) string {
	t.Helper()
	return briefs(lastClause(t, texts...).Subs[0].Subs)
}

const ahead = `module M where
infixl 6 +
infixl 7 *
infixr 5 ++
infix 4 ==
(+) = 1
(*) = 1
(++) = 1
(==) = 1
`

// P5.1: the chapter's examples.
func TestExamples(t *testing.T) {
	for _, c := range [][2]string{
		{"f a b c d = a + b * c + d", "(M.+ (M.+ a.1 (M.* b.2 c.3)) d.4)"},
		{"f a b c d = a : b ++ c", "(Prim.: a.1 (M.++ b.2 c.3))"},
		{"f a b c d = a `f` b * c", "(M.* (M.f a.1 b.2) c.3)"},
		{"f a b c d = a ++ b + c", "(M.++ a.1 (M.+ b.2 c.3))"},
	} {
		if got := bodyOf(t, ahead+c[0]); got != c[1] {
			t.Errorf("%q: %s, not %s", c[0], got, c[1])
		}
	}
}

// P5.1: more sequences with these fixities.
func TestSequences(t *testing.T) {
	for _, c := range [][2]string{
		{"1 + 2", "(M.+ 1 2)"},
		{"1 + 2 + 3", "(M.+ (M.+ 1 2) 3)"},
		{"1 + 2 + 3 + 4", "(M.+ (M.+ (M.+ 1 2) 3) 4)"},
		{"1 ++ 2 ++ 3", "(M.++ 1 (M.++ 2 3))"},
		{"1 ++ 2 ++ 3 ++ 4", "(M.++ 1 (M.++ 2 (M.++ 3 4)))"},
		{"1 == 2", "(M.== 1 2)"},
		{"1 * 2 + 3", "(M.+ (M.* 1 2) 3)"},
		{"1 + 2 * 3", "(M.+ 1 (M.* 2 3))"},
		{"1 * 2 + 3 * 4", "(M.+ (M.* 1 2) (M.* 3 4))"},
		{"1 + 2 * 3 * 4 + 5", "(M.+ (M.+ 1 (M.* (M.* 2 3) 4)) 5)"},
		{"1 + 2 == 3 + 4", "(M.== (M.+ 1 2) (M.+ 3 4))"},
		{"1 ++ 2 + 3 ++ 4", "(M.++ 1 (M.++ (M.+ 2 3) 4))"},
		{"1 ++ 2 : 3 ++ 4 : 5", "(M.++ 1 (Prim.: 2 (M.++ 3 (Prim.: 4 5))))"},
		{"1 == 2 ++ 3 + 4 * 5 `f` 6", "(M.== 1 (M.++ 2 (M.+ 3 (M.* 4 (M.f 5 6)))))"},
		{"1 `f` 2 * 3 + 4 ++ 5 == 6", "(M.== (M.++ (M.+ (M.* (M.f 1 2) 3) 4) 5) 6)"},
		{"1 * 2 == 3 * 4 ++ 5 * 6 ++ 7", "(M.== (M.* 1 2) (M.++ (M.* 3 4) (M.++ (M.* 5 6) 7)))"},
		{"(1 == 2) == 3", "(M.== (M.== 1 2) 3)"},
		{"1 == (2 == 3)", "(M.== 1 (M.== 2 3))"},
		{"1 + (2 + 3)", "(M.+ 1 (M.+ 2 3))"},
		{"(1 ++ 2) ++ 3", "(M.++ (M.++ 1 2) 3)"},
		{"(1 + 2) * (3 + 4 + 5) * 6", "(M.* (M.* (M.+ 1 2) (M.+ (M.+ 3 4) 5)) 6)"},
		{"((1 + 2) * 3 ++ 4) * 5", "(M.* (M.++ (M.* (M.+ 1 2) 3) 4) 5)"},
		{"f 1 2 + f 3", "(M.+ (M.f 1 2) (M.f 3))"},
		{"1 `f` 2 `f` 3", "(M.f (M.f 1 2) 3)"},
		{"1 + if 2 then 3 else 4 + 5 * 6", "(M.+ 1 EIf[2 3 (M.+ 4 (M.* 5 6))])"},
	} {
		if got := bodyOf(t, ahead+"f = "+c[0]); got != c[1] {
			t.Errorf("%q: %s, not %s", c[0], got, c[1])
		}
	}
}

// P5.1: sequences of patterns.
func TestPatterns(t *testing.T) {
	const ahead = "module M where\ninfixl 6 :+, `L`\ninfixr 6 :^\ninfixl 7 :*\ninfix 4 :=, `N`\ndata T = (:+) T T | (:*) T T | (:=) T T | (:^) T T | (:?) T T | L T T | N T T | D T T\n"
	for _, c := range [][2]string{
		{"1 : 2", "{Prim.: 1 2}"},
		{"1 : 2 : 3", "{Prim.: 1 {Prim.: 2 3}}"},
		{"1 :+ 2 :+ 3", "{M.:+ {M.:+ 1 2} 3}"},
		{"1 :+ 2 `L` 3 :+ 4", "{M.:+ {M.L {M.:+ 1 2} 3} 4}"},
		{"1 :^ 2 :^ 3", "{M.:^ 1 {M.:^ 2 3}}"},
		{"1 :+ 2 :* 3 :+ 4", "{M.:+ {M.:+ 1 {M.:* 2 3}} 4}"},
		{"1 : 2 :* 3 : 4 :? 5", "{Prim.: 1 {Prim.: {M.:* 2 3} {M.:? 4 5}}}"},
		{"1 :? 2 `D` 3 := 4 : 5", "{M.:= {M.D {M.:? 1 2} 3} {Prim.: 4 5}}"},
		{"1 `N` 2 :+ 3", "{M.N 1 {M.:+ 2 3}}"},
		{"(1 : 2) : 3", "{Prim.: {Prim.: 1 2} 3}"},
		{"1 :+ (2 :+ 3)", "{M.:+ 1 {M.:+ 2 3}}"},
		{"L (1 : 2) (3 :+ 4 :* 5)", "{M.L {Prim.: 1 2} {M.:+ 3 {M.:* 4 5}}}"},
		{"L 1 2 :+ D 3 4", "{M.:+ {M.L 1 2} {M.D 3 4}}"},
		{"[1 : 2, 3]", "PList[{Prim.: 1 2} 3]"},
		{"(1, 2 :* 3 :+ 4)", "PTup[1 {M.:+ {M.:* 2 3} 4}]"},
	} {
		if got := patternsOf(t, ahead+"f ("+c[0]+") = 0"); got != c[1] {
			t.Errorf("%q: %s, not %s", c[0], got, c[1])
		}
	}
	if got, want := patternsOf(t, ahead+"1 :+ 2 :* 3 -+ 4 : 5 : 6 = 0"), "{M.:+ 1 {M.:* 2 3}} {Prim.: 4 {Prim.: 5 6}}"; got != want {
		t.Errorf("both sides of a clause: %s, not %s", got, want)
	}
}

// P5.1: the operator of a section is a function; its operand is mended.
func TestSections(t *testing.T) {
	for _, c := range [][2]string{
		{"(1 +)", "ELeft[1 M.+]"},
		{"(+ 1)", "ERight[M.+ 1]"},
		{"(1 :)", "ELeft[1 Prim.:]"},
		{"(: 1)", "ERight[Prim.: 1]"},
		{"(`f` 1)", "ERight[M.f 1]"},
		{"(1 `True`)", "ELeft[1 Prim.True]"},
		{"(1 * 2 + 3 +)", "ELeft[(M.+ (M.* 1 2) 3) M.+]"},
		{"(+ 1 * 2 + 3)", "ERight[M.+ (M.+ (M.* 1 2) 3)]"},
		{"(1 == 2 ==)", "ELeft[(M.== 1 2) M.==]"},
		{"(== 1 == 2)", "ERight[M.== (M.== 1 2)]"},
		{"(1 + 2 *)", "ELeft[(M.+ 1 2) M.*]"},
		{"((1 ++ 2 ++ 3 +) ++)", "ELeft[ELeft[(M.++ 1 (M.++ 2 3)) M.+] M.++]"},
		{"(1 +) + (+ 2) * (: 3)", "(M.+ ELeft[1 M.+] (M.* ERight[M.+ 2] ERight[Prim.: 3]))"},
	} {
		if got := bodyOf(t, ahead+"f = "+c[0]); got != c[1] {
			t.Errorf("%q: %s, not %s", c[0], got, c[1])
		}
	}
	c := lastClause(t, ahead+"f x = (x `True`)")
	if op := c.Subs[1].Subs[0].Subs[0].Subs[1].Subs[1]; op.Kind != api.ECon || op.N != 0 {
		t.Error(say(op))
	}
}

// P5.1: whole trees, with their positions.
func TestPositions(t *testing.T) {
	c := lastClause(t, "module M where\ninfixl 7 *\na * b = a\na + b = a\nf a (x:y:z) = (a\n  `f` x) *   y : (g z\n + a)\n where g = (a *) (: y)")
	want := `DClause ""@5.1(List ""@0.0(PVar "a.5"@5.3()` +
		`PCon "Prim.:"@5.6(PVar "x.6"@5.6()PCon "Prim.:"@5.8(PVar "y.7"@5.8()PVar "z.8"@5.10())))` +
		`DRhs ""@5.13(List ""@0.0(DGuard ""@5.13(None ""@0.0()` +
		`EApp ""@5.16(EApp ""@5.16(ECon "Prim.:"@6.16()` +
		`EApp ""@5.16(EApp ""@5.16(EVar "M.*"@6.10()` +
		`EApp ""@5.16(EApp ""@5.16(EVar "M.f"@6.3()EVar "a.5"@5.16())EVar "x.6"@6.7()))` +
		`EVar "y.7"@6.14()))` +
		`EApp ""@6.19(EApp ""@6.19(EVar "M.+"@7.2()EApp ""@6.19(EVar "g.9"@6.19()EVar "z.8"@6.21()))EVar "a.5"@7.4()))))` +
		`List ""@0.0(DFun "g.9"@8.8(DClause ""@8.8(List ""@0.0()DRhs ""@8.10(List ""@0.0(DGuard ""@8.10(None ""@0.0()` +
		`EApp ""@8.12(ELeft ""@8.12(EVar "a.5"@8.13()EVar "M.*"@8.15())ERight ""@8.18(ECon "Prim.:"@8.19()EVar "y.7"@8.21())` +
		`)))List ""@0.0()))))))`
	if got := strings.ReplaceAll(say(c), `" 0@`, `"@`); got != want {
		t.Errorf("got  %s\nwant %s", got, want)
	}
}

// P5.1: what is made has the position of the left operand and of the
// operator, whatever positions the sequences within one another have.
func TestMadePositions(t *testing.T) {
	place := 0
	put := func(n api.Node) api.Node {
		place++
		n.Line, n.Col = 100+place, 200-place
		return n
	}
	number := func() api.Node { return put(api.Node{Kind: api.EInt, N: 7}) }
	plus := func() api.Node { return put(api.Node{Kind: api.EOp, Name: "+"}) }
	inner := put(node(api.EOps, number(), plus(), number()))
	body := put(node(api.EOps, inner, plus(), number(), plus(), number()))
	out := mended(t, module("M", function("+", nil, body)))
	got := say(out[0].Subs[2].Subs[0].Subs[0].Subs[1].Subs[0].Subs[0].Subs[1])
	want := `EApp "" 0@101.199(EApp "" 0@101.199(EVar "M.+" 0@107.193()` +
		`EApp "" 0@101.199(EApp "" 0@101.199(EVar "M.+" 0@105.195()` +
		`EApp "" 0@101.199(EApp "" 0@101.199(EVar "M.+" 0@102.198()EInt "" 7@101.199())EInt "" 7@103.197()))` +
		`EInt "" 7@106.194()))EInt "" 7@108.192())`
	if got != want {
		t.Errorf("got  %s\nwant %s", got, want)
	}
}

// P5.1: no modules are mended.
func TestNoModules(t *testing.T) {
	if out, d := fix.Mend(); len(out) != 0 || d != (api.Diag{}) {
		t.Error(out, d)
	}
}

// P5.1: fixity declarations are removed, and nothing else.
func TestFixitiesAreRemoved(t *testing.T) {
	for _, c := range [][2]string{
		{"infixl 6 +\n(+) = 1", "(+) = 1"},
		{"(+) = 1\ninfixl 6 +", "(+) = 1"},
		{"(+) = 1\ninfixl 6 +\ninfixr 3 `f`\nf = 2\ninfix 0 `C`\ndata T = C", "(+) = 1\nf = 2\ndata T = C"},
		{"infixl 6 +, -, `f`\n(+) = 1\n(-) = 2\nf = 3", "(+) = 1\n(-) = 2\nf = 3"},
		{"f = 1", "f = 1"},
		{"", ""},
	} {
		wantSame(t, "module M where\n"+c[0], "module M where\n"+c[1])
	}
}
