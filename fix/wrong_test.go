package fix_test

import (
	"strings"
	"testing"

	"teasel/api"
	"teasel/fix"
	"teasel/names"
)

// diagOf is the error that Mend must answer beside no modules.
func diagOf(t *testing.T, mods ...api.Node) api.Diag {
	t.Helper()
	out, d := fix.Mend(mods...)
	if d.Number != api.OK && len(out) != 0 {
		t.Fatal("modules beside an error:", sayTrees(out))
	}
	return d
}

// wantWrong holds that modules have that error where a § stands.
func wantWrong(t *testing.T, number api.Errno, texts ...string) {
	t.Helper()
	var mods []api.Node
	var want api.Diag
	for _, text := range texts {
		before, after, found := strings.Cut(text, "§")
		mods = append(mods, tree(t, before+after))
		if found {
			want.File = mods[len(mods)-1].Name
			want.Line = 1 + strings.Count(before, "\n")
			want.Col = len(before) - strings.LastIndex(before, "\n")
			want.Number = number
		}
	}
	if want.Number == api.OK {
		t.Fatal("no § in", texts)
	}
	if got := diagOf(t, mods...); got != want {
		t.Errorf("%q:\ngot  %+v\nwant %+v", texts, got, want)
	}
}

// P5.2: the chapter's examples.
func TestWrongExamples(t *testing.T) {
	wantWrong(t, api.ErrMix, ahead+"f a b c d = a == b §== c")
	wantWrong(t, api.ErrMix, ahead+"f a b c d = a == b + c §== d")
	wantWrong(t, api.ErrFix, "module M where\ninfixl 6 +\ninfixr 5 ++, §+\n(+) = 1\n(++) = 2")
}

const sides = `module M where
infixl 6 <+, <-+
infixr 6 +>, ->>
infix 6 <>, ><
infixl 3 <.
infixr 3 .>
infix 3 .
infixl 7 :<
infixr 7 :>
infix 7 :=
data T = (:<) | (:>) | (:=) | (:*)
(<+) = 1
(<-+) = 1
(+>) = 1
(->>) = 1
(<>) = 1
(><) = 1
(<.) = 1
(.>) = 1
(.) = 1
(*) = 1
`

// P5.2: operators that clash, and the first place at which one does.
func TestErrMix(t *testing.T) {
	for _, sequence := range []string{
		"1 <> 2 §<> 3",
		"1 <> 2 §>< 3",
		"1 <> 2 §<+ 3",
		"1 <> 2 §+> 3",
		"1 <+ 2 §<> 3",
		"1 +> 2 §<> 3",
		"1 <+ 2 §+> 3",
		"1 +> 2 §<+ 3",
		"1 <+ 2 <-+ 3 <+ 4 §->> 5",
		"1 +> 2 ->> 3 +> 4 §<-+ 5",
		"1 <+ 2 * 3 §+> 4",
		"1 <> 2 * 3 * 4 §<> 5",
		"1 <> 2 * 3 §<> 4 <> 5 <> 6",
		"1 <> 2 §<> 3 . 4 <> 5 <> 6",
		"1 <> 2 . 3 <> 4 §<> 5",
		"1 <+ 2 . 3 +> 4 §. 5",
		"1 <. 2 <+ 3 §.> 4 +> 5",
		"1 . 2 <> 3 * 4 §. 5",
		"1 <> 2 . 3 <> 4 §. 5 <> 6",
		"1 : 2 <+ 3 §+> 4 : 5",
		"1 := 2 §:= 3",
		"1 :< 2 §:> 3",
		"1 :< 2 * 3 §:> 4",
		"(1 <> 2 §<> 3) <> (4 <> 5 <> 6)",
		"(1 <> 2) <> (4 <> 5 §<> 6)",
		"1 <> (2 <+ 3 §+> 4) <> 5",
		"1 * (2 * (3 <> 4 §<> 5))",
		"1 <> 2 §<> (3 <> 4 <> 5)",
	} {
		wantWrong(t, api.ErrMix, sides+"f = "+sequence)
	}
}

// P5.2: no operators clash that have a lower one between them, that stand in
// different sequences, or that are both infixl or both infixr.
func TestNoClash(t *testing.T) {
	for _, sequence := range []string{
		"1 <> 2 . 3 <> 4",
		"1 <> 2 .> 3 <+ 4 .> 5 +> 6 ->> 7",
		"1 <+ 2 <-+ 3 <+ 4",
		"1 +> 2 ->> 3 +> 4",
		"(1 <> 2) <> 3",
		"1 <> (2 <> 3)",
		"1 <> (2 <+ (3 +> 4))",
		"(1 <> 2 <>) (<> 3 <> 4)",
		"(1 <+ 2 +>) (<+ 3 +> 4)",
		"1 <> if 2 <> 3 then 4 <> 5 else 6 <> 7",
		"1 <> f 2 (3 <> 4) [5 <> 6]",
		"1 <> 2 . 3 * 4 <> 5 * 6",
		"1 <. 2 <> 3 <. 4 <+ 5 <. 6 +> 7",
	} {
		mended(t, tree(t, sides+"f = "+sequence))
	}
}

// P5.2: clashes in patterns.
func TestErrMixInPatterns(t *testing.T) {
	for _, text := range []string{
		"f (1 := 2 §:= 3) = 4",
		"f (1 :< 2 :< 3 §:> 4) = 4",
		"f (1 := 2 :* 3 §:= 4) = 5",
		"f (1 := 2 : 3 := 4 §:= 5) = 6",
		"f (1 : (2 :> 3 §:< 4)) = 6",
		"f [x, ((:*) y (1 :< 2 §:= 3))] = 4",
		"1 := 2 §:= 3 - 4 := 5 = 6",
		"1 := 2 - 4 := 5 §:= 5 = 6",
		"f = \\(1 := 2 §:= 3) -> 4",
		"f = case 1 of { 1 := 2 §:= 3 -> 4 }",
		"[1 := 2 §:= 3] = 4",
		"f = let [1 := 2 §:= 3] = 4 in 5",
	} {
		wantWrong(t, api.ErrMix, sides+text)
	}
}

// P5.2: clashes wherever sequences stand.
func TestErrMixEverywhere(t *testing.T) {
	const wrong, wrongPattern = "(1 <> 2 §<> 3)", "(1 := 2 §:= 3)"
	for _, text := range []string{
		"f = W",
		"f | W = 1",
		"f | 1 = 2 | 3 = W",
		"f = 1 where g = W",
		"f = 1 where (g, P) = 2",
		"f 1 = 2\nf P = 3",
		"instance C T where c = W",
		"instance C T where { c 1 = 2; c P = 3 }",
		"f = f W",
		"f = W f",
		"f = \\x -> W",
		"f = let g = W in 1",
		"f = let g = 1 in W",
		"f = if W then 1 else 2",
		"f = if 1 then W else 2",
		"f = if 1 then 2 else W",
		"f = case W of { }",
		"f = case 1 of { 2 | W -> 3 }",
		"f = case 1 of { 2 -> 3 where g = W }",
		"f = do { W; 1 }",
		"f = do { P <- 1; 2 }",
		"f = do { x <- W; 2 }",
		"f = do { let { x = W }; 2 }",
		"f = do { 1; W }",
		"f = (1, W)",
		"f = [1, 2, W]",
		"f = (W +)",
		"f = (+ W)",
		"f = R { l = W }",
		"f = W { l = 1 }",
		"f = f { l = W }",
		"f R { l = P } = 1",
		"f x@P = 1",
	} {
		text = strings.NewReplacer("W", wrong, "P", wrongPattern).Replace(text)
		wantWrong(t, api.ErrMix, "module Prelude where\ninfix 4 <>, :=\n(<>) = 1\n(+) = 1\n(>>=) = 1\ndata T = (:=) | R { l :: T }\nclass C c where c :: c\n"+text)
	}
}

// P5.2: an operator that two fixities are declared for.
func TestErrFix(t *testing.T) {
	for _, text := range []string{
		"infixl 6 +\ninfixl 6 §+",
		"infixl 6 +\ninfixr 5 §+",
		"infixl 6 +, §+",
		"infixl 6 +, -, `f`, :+, `C`, §-",
		"infixl 6 +, -, `f`, :+, `C`, §`C`",
		"infixl 6 +\ninfixl 6 -\ninfix 2 `f`, §+, -",
		"infixl 6 `f`\ninfix 2 §`f`",
		"infixl 6 :+\ninfix 2 §:+",
		"infixl 6 +, §+, +\ninfixl 6 +",
		"infix 6 +\nh = 1\ninfix 6 §+",
		"infix 6 `c`\ninfix 6 §`c`",
		"infix 6 `l`\ninfix 6 §`l`",
	} {
		wantWrong(t, api.ErrFix, "module M where\n(+) = 1\n(-) = 2\nf = 3\ndata T = C | (:+) { l :: T }\nclass K k where c :: k\n"+text)
	}
	// Operators of different modules are different ones.
	mended(t, trees(t, "module A where\ninfixl 6 +\n(+) = 1", "module B where\nimport A\ninfixr 6 +\n(+) = 1", "module C where\ninfix 1 +\n(+) = 1")...)
}

// P5.2: of several errors the one with the smallest position.
func TestFirstOfModule(t *testing.T) {
	for _, c := range []struct {
		number api.Errno
		text   string
	}{
		{api.ErrFix, "infix 6 +\ninfix 6 §+\nf = 1 + 2 + 3"},
		{api.ErrMix, "infix 6 +\nf = 1 + 2 §+ 3\ninfix 6 +"},
		{api.ErrMix, "f = 1 + 2 §+ 3\ninfix 6 +\ninfix 6 +"},
		{api.ErrMix, "f = 1 + 2 §+ 3\ninfix 6 +\ninfixl 6 +"}, // the first fixity holds
		{api.ErrFix, "f = 1 + 2 + 3\ninfixl 6 +\ninfix 6 §+"},
		{api.ErrMix, "f = 1 - 2 §- 3\ng = 1 + 2 + 3\ninfix 6 +, -"},
		{api.ErrMix, "f = 1 + 2 §+ 3 + 4\ng = 1 + 2 + 3\ninfix 6 +, -"},
		{api.ErrMix, "f = (1 + 2 §+ 3) + (4 + 5 + 6) + (7 + 8 + 9)\ninfix 6 +, -"},
		{api.ErrMix, "f (1 :+ 2 §:+ 3) = (4 + 5 + 6)\ninfix 6 +, :+"},
		{api.ErrMix, "f x = 1 + y §+ 1 where { g = 1 + 2 + 3; y = 2 }\ninfix 6 +"},
		{api.ErrFix, "infix 6 :+\ninfix 6 §:+\nf (1 :+ 2 :+ 3) = 4"},
	} {
		wantWrong(t, c.number, "module M where\n(+) = 1\n(-) = 2\ndata T = (:+) T T\n"+c.text)
	}
}

// P5.2: smallest by lines and then columns, whatever the order in the tree;
// at one position ErrFix comes first.
func TestFirstByPosition(t *testing.T) {
	at := func(line, col int, n api.Node) api.Node {
		n.Line, n.Col = line, col
		return n
	}
	one := api.Node{Kind: api.EInt, N: 1}
	program := func(fixed [2]int, ops ...[2]int) api.Node {
		twice := fixity("infix", 3, "+", "+")
		twice.Subs[0].Subs[0] = at(0, 0, twice.Subs[0].Subs[0])
		twice.Subs[0].Subs[1] = at(fixed[0], fixed[1], twice.Subs[0].Subs[1])
		sequence := []api.Node{one}
		for _, op := range ops {
			sequence = append(sequence, at(op[0], op[1], operator("+")), one)
		}
		return module("M", twice, function("+", nil, node(api.EOps, sequence...)))
	}
	for _, c := range []struct {
		fixed [2]int
		ops   [][2]int
		want  api.Diag
	}{
		{[2]int{5, 5}, [][2]int{{1, 1}, {2, 9}, {3, 1}}, api.Diag{File: "M", Line: 2, Col: 9, Number: api.ErrMix}},
		{[2]int{5, 5}, [][2]int{{1, 1}, {6, 1}, {5, 6}, {5, 4}}, api.Diag{File: "M", Line: 5, Col: 4, Number: api.ErrMix}},
		{[2]int{5, 5}, [][2]int{{1, 1}, {6, 1}, {5, 6}}, api.Diag{File: "M", Line: 5, Col: 5, Number: api.ErrFix}},
		{[2]int{5, 5}, [][2]int{{1, 1}, {5, 5}, {5, 5}}, api.Diag{File: "M", Line: 5, Col: 5, Number: api.ErrFix}},
		{[2]int{5, 5}, [][2]int{{1, 1}}, api.Diag{File: "M", Line: 5, Col: 5, Number: api.ErrFix}},
		{[2]int{5, 5}, [][2]int{{1, 1}, {-3, 700}, {-3, 699}}, api.Diag{File: "M", Line: -3, Col: 699, Number: api.ErrMix}},
		{[2]int{0, 0}, [][2]int{{1, 1}, {1, 1}}, api.Diag{File: "M", Number: api.ErrFix}},
		{[2]int{0, 1}, [][2]int{{1, 1}, {0, 0}}, api.Diag{File: "M", Number: api.ErrMix}},
	} {
		if got := diagOf(t, program(c.fixed, c.ops...)); got != c.want {
			t.Errorf("%v: got %+v, want %+v", c.ops, got, c.want)
		}
	}
}

// P5.2: an operator that clashes with one that is not its neighbour, though
// not with that one.
func TestFarClash(t *testing.T) {
	one := api.Node{Kind: api.EInt, N: 1}
	op := func(name string, line int) api.Node {
		n := operator(name)
		n.Line = line
		return n
	}
	head := []api.Node{
		fixity("infixl", 3, "<+"), fixity("infixr", 3, "+>"), fixity("infixr", 4, "*"),
		function("<+", nil, one), function("*", nil, one),
	}
	// Both +> clash with <+, and the second one has the smaller position.
	for _, c := range []struct {
		sequence []api.Node
		want     int
	}{
		{[]api.Node{one, op("<+", 9), one, op("+>", 8), one, op("+>", 7), one}, 7},
		{[]api.Node{one, op("+>", 9), one, op("<+", 8), one, op("<+", 7), one}, 7},
		{[]api.Node{one, op("<+", 9), one, op("+>", 8), one, op("<+", 7), one}, 7},
		{[]api.Node{one, op("<+", 9), one, op("<+", 8), one, op("+>", 7), one, op("<+", 6), one, op("<+", 5), one}, 5},
		{[]api.Node{one, op("<+", 9), one, op("*", 1), one, op("+>", 8), one, op("*", 1), one, op("+>", 7), one}, 7},
		{[]api.Node{one, op("<+", 1), one, op("<+", 2), one, op("+>", 4), one, op("*", 1), one, op("+>", 5), one}, 4},
	} {
		mod := module("M", append(head, function("+>", nil, node(api.EOps, c.sequence...)))...)
		if got, want := diagOf(t, mod), (api.Diag{File: "M", Line: c.want, Number: api.ErrMix}); got != want {
			t.Errorf("got %+v, want %+v", got, want)
		}
	}
}

// P5.2: the first module, in dependency order, that has an error.
func TestFirstModule(t *testing.T) {
	const plus = "infix 3 +\n(+) = 1\n"
	wantWrong(t, api.ErrMix, "module A where\n\n\n\n"+plus+"f = 1 + 2 §+ 3", "module B where\n"+plus+"f = 1 + 2 + 3")
	wantWrong(t, api.ErrMix, "module B where\n"+plus+"f = 1 + 2 + 3", "module A where\n\n\n\n"+plus+"f = 1 + 2 §+ 3")
	wantWrong(t, api.ErrMix, "module A where\nimport B\nf = 1 + 2 + 3", "module B where\n\n\n"+plus+"g = 1 + 2 §+ 3")
	wantWrong(t, api.ErrMix, "module A where\nimport B\nf = 1 + 2 §+ 3", "module B where\n"+plus)
	wantWrong(t, api.ErrFix, "module A where\nimport B\nf = 1 + 2 + 3", "module B where\n"+plus+"infixl 1 §+")
	wantWrong(t, api.ErrFix, "module A where\n"+plus+"infixl 1 §+", "module B where\n"+plus+"f = 1 + 2 + 3")
	wantWrong(t, api.ErrMix, "module A where\nimport Prelude ((+), (-))\nf = 1 + 2 + 3", "module Prelude where\n\n\n\ninfix 3 +, -\n(+) = 1\n(-) = 1 + 2 §- 3")
	wantWrong(t, api.ErrMix, api.Prelude, "module A where\nf = 1 == 2 §/= 3")
	wantWrong(t, api.ErrMix, api.Prelude, "module A where\nf = 1 ++ 2 == 3 : 4 §< 5")
}

// P5.2: the errors of names.Resolve come ahead of all.
func TestErrorsOfNames(t *testing.T) {
	const wrong = "infix 3 +, +\n(+) = 1 + 2 + 3\n"
	wantWrong(t, api.ErrUnknown, "module A where\n"+wrong+"f = §x")
	wantWrong(t, api.ErrUnknown, "module A where\n"+wrong, "module B where\nf = §x")
	wantWrong(t, api.ErrUnknown, "module A where\n"+wrong+"infix 3 §-")
	wantWrong(t, api.ErrUnknown, "module A where\n"+wrong+"infix 3 §:")
	wantWrong(t, api.ErrUnknown, "module A where\n"+wrong, "module B where\nimport A\ninfixl 3 §+")
	wantWrong(t, api.ErrTwice, "module A where\n"+wrong+"§(+) = 2")
	wantWrong(t, api.ErrModule, "module A where\n"+wrong, "§module A where")
	wantWrong(t, api.ErrImport, "module A where\n§import B\n"+wrong)
	wantWrong(t, api.ErrCycle, "module A where\n§import A\n"+wrong)
	wantWrong(t, api.ErrExport, "module A (§g) where\n"+wrong)
	wantWrong(t, api.ErrMany, "module A where\n(-) = 1", "module B where\n(-) = 2", "module C where\nimport A\nimport B\n"+wrong+"f = 1 §- 2")
	right := tree(t, "module A where\nf = 1")
	wrongTree := tree(t, "module B where\ninfixl 3 +\n(+) = 1")
	wrongTree.Subs[2].Subs[0].N = 10
	for _, mods := range [][]api.Node{{{}}, {right, {Kind: api.EOps}}, {{Kind: -5}}, {right, wrongTree}} {
		if d := diagOf(t, mods...); d != (api.Diag{Number: api.ErrTree}) {
			t.Error(d)
		}
		if _, d := names.Resolve(mods...); d != (api.Diag{Number: api.ErrTree}) {
			t.Error(d)
		}
	}
}
