package names_test

import (
	"strings"
	"testing"

	"teasel/api"
	"teasel/names"
)

// diagOf is the error that Resolve must answer beside no modules.
func diagOf(t *testing.T, mods ...api.Node) api.Diag {
	t.Helper()
	out, d := names.Resolve(mods...)
	if d.Number != api.OK && len(out) != 0 {
		t.Fatal("modules beside an error:", sayTrees(out))
	}
	return d
}

// wantWrong holds that modules have that error where a § stands.
func wantWrong(t *testing.T, number api.Errno, texts ...string) {
	t.Helper()
	var mods []api.Node
	var want api.Diag
	for _, text := range texts {
		before, after, found := strings.Cut(text, "§")
		mods = append(mods, tree(t, before+after))
		if found {
			want.File = mods[len(mods)-1].Name
			want.Line = 1 + strings.Count(before, "\n")
			want.Col = len(before) - strings.LastIndex(before, "\n")
			want.Number = number
		}
	}
	if want.Number == api.OK {
		t.Fatal("no § in", texts)
	}
	if got := diagOf(t, mods...); got != want {
		t.Errorf("%q:\ngot  %+v\nwant %+v", texts, got, want)
	}
}

// P4.2: the chapter's examples.
func TestWrongExamples(t *testing.T) {
	wantWrong(t, api.ErrImport, "module A (f) where\nf = 1\ndata T = T", "module Main where\nimport A (f, §T)")
	wantWrong(t, api.ErrUnknown, "module A where\ndata T = C { l :: §Prim }")
	wantWrong(t, api.ErrTwice, "module A where\nf (x, §x) = y")
	wantWrong(t, api.ErrMany, "module A where\nh = 1", "module B where\nh = 2", "module Main where\nimport A\nimport B\nk = §h")
	wantWrong(t, api.ErrCycle, "module Main where\nimport A\nmain = f", "module A where\n§import Main\nf = 1")
}

// P4.2: a tree that is not Right, ahead of all else, without a File and a
// position.
func TestErrTree(t *testing.T) {
	right := tree(t, "module A where\nf x = x")
	want := api.Diag{Number: api.ErrTree}
	change := func(text string, change func(n *api.Node)) api.Node {
		n := tree(t, text)
		change(&n)
		return n
	}
	for i, n := range []api.Node{
		{},
		{Kind: api.EVar, Name: "x"},
		{Kind: api.DMod, Name: "A", Line: 3, Col: 4},
		{Kind: 1000},
		{Kind: -1},
		right.Subs[2],
		change("module A where", func(n *api.Node) { n.Name = "" }),
		change("module A where", func(n *api.Node) { n.Name = "a" }),
		change("module A where", func(n *api.Node) { n.N = 1 }),
		change("module A where", func(n *api.Node) { n.Subs = n.Subs[:2] }),
		change("module A where\nf = 1", func(n *api.Node) { n.Subs[2].Subs[0].N = 1 }),
		change("module A where\nf = 1", func(n *api.Node) { n.Subs[2].Subs[0].Name = "A.f" }),
		change("module A where\nf = 1", func(n *api.Node) { n.Subs[2].Subs[0].Subs = nil }),
	} {
		for _, mods := range [][]api.Node{{n}, {right, n}, {n, right}, {right, right, n}, {tree(t, "module Prim where\nimport X"), n}} {
			if d := diagOf(t, mods...); d != want {
				t.Error(i, d)
			}
		}
	}
	once := resolved(t, right)
	if d := diagOf(t, once...); d != want {
		t.Error("resolved names are no names:", d)
	}
}

// P4.2: modules with names that they may not have, ahead of what is wrong in
// any.
func TestErrModule(t *testing.T) {
	wantWrong(t, api.ErrModule, "§module Prim where")
	wantWrong(t, api.ErrModule, "module A where", "\n  §module A where")
	wantWrong(t, api.ErrModule, "module A where\nimport X\nf = 1\nf = y", "module B where", "§module A where")
	wantWrong(t, api.ErrModule, "module B where", "module A where", "§module A where", "module B where")
	wantWrong(t, api.ErrModule, "module B where", " §module Prim where", "module B where")
	wantWrong(t, api.ErrModule, "module B where", " §module B where", "module Prim where")
	wantWrong(t, api.ErrModule, "module Prelude where", "\n §module Prelude where")
	wantWrong(t, api.ErrModule, "module A where", " §module A where", "  module A where")
}

// P4.2: imports of modules that are not there, module by module as they were
// handed in, ahead of cycles and of what is wrong in any.
func TestErrImportOfModule(t *testing.T) {
	wantWrong(t, api.ErrImport, "module A where\nimport Prim\n§import B\nimport C")
	wantWrong(t, api.ErrImport, "module B where\nimport A\n  ;§import X", "module A where\nimport B\nimport Y")
	wantWrong(t, api.ErrImport, "module B where", "module A where\nimport A\n§import Y (f)\nf = 1\nf = 2")
	wantWrong(t, api.ErrImport, "module B where\nimport B", "module A where\n§import Y")
	wantWrong(t, api.ErrImport, "module B where\nf = f\nf = f", "module A where\n§import Y")
	wantWrong(t, api.ErrImport, "module A where\n§import Prelude ()")
}

// P4.2: modules that cannot be put in order.
func TestErrCycle(t *testing.T) {
	wantWrong(t, api.ErrCycle, "module A where\n§import A")
	wantWrong(t, api.ErrCycle, "module B where\nimport A", "module A where\nimport Prim\n§import B\nimport B")
	wantWrong(t, api.ErrCycle, "module A where\nimport D\n§import B", "module B where\nimport C", "module C where\nimport A", "module D where")
	wantWrong(t, api.ErrCycle, "module C where\nimport D\nimport B", "module B where\nimport D\n§import C", "module A where", "module D where")
	wantWrong(t, api.ErrCycle, "module A where\nimport D\n§import B", "module B where\nimport B", "module D where\nimport E", "module E where") // A is in no cycle itself
	wantWrong(t, api.ErrCycle, "module A where", "module B where\nf = 1\nf = 2\n", "module C where\n§import C")
	wantWrong(t, api.ErrCycle, "module B where\nimport C\nimport A", "module C where\nimport B", "module A where\nimport D\n§import A", "module D where")
	// the Prelude: what it imports can't import it unasked
	wantWrong(t, api.ErrCycle, "\n §module A where\nf = 1", "module Prelude where\nimport A")
	wantWrong(t, api.ErrCycle, "\n §module A where\nimport Prim\nf = 1", "module Prelude where\nimport A")
	wantWrong(t, api.ErrCycle, "module A where\n§import Prelude ()", "module Prelude where\nimport A")
	wantWrong(t, api.ErrCycle, "module Prelude where\n§import Prelude")
	wantWrong(t, api.ErrCycle, "module A where\n§import Z", "module Prelude where\nimport Z", "module Z where")
	wantWrong(t, api.ErrCycle, "module Q where", "module Prelude where\nimport Prelude", "module Pr where\nimport Prim\n§import Q")
}

// P4.2: own entities that are there twice, and constructors named as the list
// constructor, in the order of the tree.
func TestErrTwiceOwn(t *testing.T) {
	for _, text := range []string{
		"f = 1\n§f = 2",
		"f = 1\n§f x = 2",
		"f x = 1\ng = 1\n§f x = 2",
		"(x, §x) = 1",
		"(x, y) = 1\n§x = 2",
		"x = 2\n(y, [1, §x@_]) = 1",
		"x@(§x : y) = 2",
		"data T = C { l :: T, §l :: T }",
		"data T = C { l :: T } | D { §l :: T }",
		"data T = C { l :: T }\n§l = 1",
		"l = 1\ndata T = C { §l :: T }",
		"class C c where\n  m :: c\n  §m :: c",
		"class C c where m :: c\nclass D c where §m :: c",
		"class C c where m :: c\ndata D = D { §m :: D }",
		"class C c where (+) :: c\n§a + b = a",
		"data T = C | §C",
		"data T = C\ndata U = D | §C",
		"data T = (:+)\ndata U = §(:+)",
		"data T\n§data T",
		"data T\n§class T t",
		"class T t\n§data T",
		"class T t\n§class T t",
		"data T = §(:)",
		"data T = C | §(:) T T | C | (:)",
		"data T = C | §C | (:)",
		"f = 1\nx = 2\n§x = 3\nf = 4",
		// of data, its constructors, their fields, ahead of the next one
		"l = 1\ndata C = C { §l :: C } | C\ndata C",
		"data C = C { l :: C } | §C { l :: C }\nl = 2",
		"data C = A { l :: C, §l :: C } | A",
		"data A = A\n§data A = A",
		"class A a where m :: a\nm' = 1\n§class A a where m :: a",
	} {
		wantWrong(t, api.ErrTwice, "module A where\n"+text)
	}
}

// P4.2: export and import items that name nothing.
func TestErrItems(t *testing.T) {
	text := ") where\nimport Prim\ndata T = C { l :: T }\nclass K k where m :: k\nf = let { x = 1 } in x"
	for _, items := range []string{"§g", "f, §x", "f, §C", "T, K, l, m, f, §T'", "f, §primAdd, g", "§Int", "§(+)", "§k", "§A", "§Prim"} {
		wantWrong(t, api.ErrExport, "module A ("+items+text)
	}
	for _, items := range []string{"§g", "f, §x", "f, §C", "T, K, l, m, f, §T'", "f, §primAdd, g", "§Int", "§(+)", "§k", "§A"} {
		wantWrong(t, api.ErrImport, "module A ("+"T, K, f"+text, "module B where\nimport A ("+items+")")
		wantWrong(t, api.ErrImport, "module A where"+strings.TrimPrefix(text, ") where"), "module B where\nimport A (f)\nimport A ("+items+")\nimport A (z)")
	}
	wantWrong(t, api.ErrImport, "module A (f"+text, "module B where\nimport A (§l)")
	wantWrong(t, api.ErrImport, "module A (l, m"+text, "module B where\nimport A (l, m, §T)")
	wantWrong(t, api.ErrImport, "module A ("+text, "module B where\nimport A (§f)")
}

// P4.2: names that refer to nothing.
func TestErrUnknown(t *testing.T) {
	for _, text := range []string{
		"f = §x", "f = 1 §+ 2", "f = §(+)", "f = (1 §+)", "f = (§`x` 1)", "f = §C", "f §C = 1", "f (§C x) = 1", "f (1 §:+ 2) = 1", "f = 1 §:+ 2",
		"f = §(:+)", "f = §C { }", "f (§C { }) = 1", "f x = x { §l = 1 }", "data T = C §U", "data T = C { l :: [§U] }", "class C c where m :: §D c -> c",
		"class C c\n§instance D Int", "class C c\ninstance C §T", "class C c\ninstance C (§T a)", "class C c\ninstance §D a => C [a]",
		"class C c\ninstance (C a, §D b) => C (a, b)",
		// of another sort
		"data T = C\nf = §T", "data T = C §C", "f = §f'\nf'' = 1", "class C c where m :: c\nf = §C", "f = 1\ng x = §c\nclass C c",
		// a class is no type, and a type is no class
		"class C c\ndata T = T §C", "class C c\ninstance C §C", "data T\n§instance T Int", "§instance Int Int", "data T\nclass C c\ninstance §T a => C [a]",
		"class C c\ninstance §Bool a => C [a]", "class C c where m :: §C c",
		// out of scope
		"f x = 1\ng = §x", "f = (let { x = 1 } in 1) §x", "f x = 1 where { y = 1 }\ng = §y", "f = case 1 of { x -> 1; y -> §x }",
		"f = (\\x -> 1) §x", "f x = 1\nf y = §x", "f 1 = g where { g = 1 }\nf 2 = §g", "f = let { g x = 1; h = §x } in 1",
		// type variables
		"data T = C §a", "data T a = C a §b", "data T a = C a | D { l :: a -> [§b] }", "data T a = C\ndata U = D §a", "data T a = C (§f a)",
		"class C c\ninstance C §a => C Int", "class C c\ninstance (C a, C §b) => C [a]", "class C c\ndata T t\ninstance C §t => C (T a)",
		// fields
		"data T = C { l :: T } | D { m :: T } | E\nf = C { §m = 1 }", "data T = C { l :: T } | D { m :: T } | E\nf = E { §l = 1 }",
		"data T = C { l :: T }\nf = C { §x = 1 }\nx = 1", "data T = C { l :: T }\nf (C { l = 1, §x = 2 }) = 1\nx = 1", "f = True { §l = 1 }", "f (() { §l = 1 }) = 1",
		"data T = C { l :: T } | D { m :: T }\nf (D { §l = y }) = y", "data T = C { l :: T }\nf (C { §n = y }) = y", "f = (:) { §f = 1 }",
		"f x = x { §f = 1 }", "class C c where m :: c\nf x = x { §m = 1 }", "(x, y) = 1\nf z = z { §x = 1 }", "f x = x { §x = 1 }", "f x = x { §l = 1 } where { l = 1 }",
		"import Prim\nf x = x { §primAdd = 1 }",
		// methods
		"class C c where m :: c\ninstance C Int where §n = 1", "class C c where m :: c\ninstance C Int where { m = 1; §f = 1 }\nf = 1",
		"class C c where m :: c\nclass D d where n :: d\ninstance C Int where §n = 1", "class C c\ninstance C Int where §x + y = 1",
		"class C c where m :: c\ndata T = T { l :: T }\ninstance C T where §l = 1",
		"class C c\ndata T = C { l :: T }\ninstance C T where §l = 1", "class C c where m :: c\ndata T = C { l :: T }\nf = C { §m = 1 }",
		// fixities
		"infix 1 §+", "infix 1 §:+", "infix 1 §`f`", "infix 1 §`C`", "infixr 5 §:", "infixl 1 `f`, §`g`\nf = 1", "infix 1 §`C`\ndata C", "infix 1 §`True`",
		"import Prim\ninfix 1 §`primAdd`", "infix 1 §`x`\nf x = 1", "infix 1 §`c`\nclass C c", "f = let { g = 1 } in 1\ninfix 1 §`g`",
	} {
		wantWrong(t, api.ErrUnknown, "module A where\n"+text)
	}
	wantWrong(t, api.ErrUnknown, "module B where\nf = 1\ndata T = C { l :: T }", "module A where\nimport B\ninfix 1 §`f`")
	wantWrong(t, api.ErrUnknown, "module B where\ndata T = C { l :: T }", "module A where\nimport B\nl = 1\nf x = x { §l = 1 }")
	wantWrong(t, api.ErrUnknown, "module B where\ndata T = C { l :: T }", "module A where\nimport B\ndata U = C { m :: U }\nf = C { §l = 1 }")
	wantWrong(t, api.ErrUnknown, "module B where\nclass K k where m :: k", "module A where\nimport B\nclass L l where n :: l\ninstance K Int where §n = 1")
}

// P4.2: what one node may bind or name only once.
func TestErrTwiceLocal(t *testing.T) {
	for _, text := range []string{
		"data T a §a = C", "data T a b c §b c = C", "class C c\ndata T a b\ninstance C (T a §a)", "class C c\ninstance C (a, §a)", "class C c\ninstance C (a -> §a)",
		"class C c\ninstance C (a, b, §a)",
		"f x §x = 1", "f x (y, §y) = 1", "f [x, §x@_] = 1", "f x@(§x, y) = 1", "f x@§x@y = 1", "x + §x = 1", "f ((x : y) : §x) = 1", "f (+) §(+) = 1",
		"f = \\x §x -> 1", "f = \\(x, [§x]) -> 1", "f = case 1 of { (x, §x) -> 1 }", "data T = T { l :: T, m :: T }\nf (T { l = x, m = §x }) = 1",
		"f = let { x = 1; §x = 2 } in 1", "f = let { x = 1; y = 2; §x y = 3 } in 1", "f = let { (x, §x) = 1 } in 1", "f = let { (x, y) = 1; (z, §y) = 2 } in 1",
		"f = 1 where { x = 1; §x = 2 }", "f = 1 where { x@(§x, y) = 1 }", "f = case 1 of { x -> 1 where { y = 1; §y = 2 } }",
		"f = let { g x = 1; h = 2; §g x = 3 } in 1",
		"data T = T { l :: T }\nf = T { l = 1, §l = 2 }", "data T = T { l :: T }\nf (T { l = 1, §l = 2 }) = 1", "data T = T { l :: T }\nf x = x { l = 1, §l = 2 }",
		"data T = T { l :: T, m :: T }\nf x = x { m = 1, l = 2, §m = 3, l = 4 }",
		"class C c where { m :: c; n :: c }\ninstance C Int where { m = 1; §m = 2 }", "class C c where { m :: c; n :: c }\ninstance C Int where { m x = 1; n = 2; §m x = 3 }",
	} {
		wantWrong(t, api.ErrTwice, "module A where\n"+text)
	}
	prelude := "module Prelude where\nm >>= k = 1\n"
	for _, text := range []string{
		"f = do { (x, §x) <- 1; 1 }", "f = do { let { x = 1; §x = 2 }; 1 }", "f = do { x <- 1; x@(y, §x) <- 2; 1 }", "f = do { let { (x, y) = 1; §y = 2 }; 1 }",
	} {
		wantWrong(t, api.ErrTwice, prelude+text)
	}
}

// P4.1: what may be the same in several nodes.
func TestNotTwice(t *testing.T) {
	prelude := "module Prelude where\nm >>= k = 1"
	for _, c := range [][2]string{
		{"f x = x\nf x = x", "A.f x.1 x.1 x.2 x.2"},
		{`f x = \x -> 1 where { x = 1 }`, "A.f x.1 x.2 x.3"},
		{"f = do { x <- 1; let { x = 2 }; let { x = 3 }; x <- 4; 5 }", "A.f x.1 x.2 x.3 x.4"},
		{"f = case 1 of { x -> 1; x -> 2 }", "A.f x.1 x.2"},
		{"data T a = T a\ndata U a = U a", "A.T a A.T a A.U a A.U a"},
		{"class C a\ninstance (C a, C a) => C [a]\ninstance C a => C (a, b)", "A.C a A.C A.C a A.C a Prim.[] a A.C A.C a Prim.(,) a b"},
		{"class C c where m :: a -> b -> c -> a", "A.C c A.m Prim.-> a Prim.-> b Prim.-> c a"},
		{"data T = T { l :: T }\nf x = x { l = T { l = 1 } } { l = 2 }", "A.T A.T A.l A.T A.f x.1 x.1 A.l A.T A.l A.l"},
		{"infix 1 `f`, `f`\ninfix 2 `f`\nf = 1", "infix A.f A.f infix A.f A.f"},
		{"class C c where m :: c\ninstance C Int where m = 1\ninstance C Int where m = 2", "A.C c A.m c A.C Prim.Int A.m A.C Prim.Int A.m"},
	} {
		wantLast(t, c[1], prelude, "module A where\n"+c[0])
	}
}

// P4.2: which of several errors is told.
func TestFirstError(t *testing.T) {
	// the kinds of errors of one module
	wantWrong(t, api.ErrTwice, "module A (x) where\nimport Prim (y)\nf = z\n§f = 1")
	wantWrong(t, api.ErrExport, "module A (§x) where\nimport Prim (y)\nf = z")
	wantWrong(t, api.ErrImport, "module A where\nimport Prim (§y)\nf = z")
	wantWrong(t, api.ErrUnknown, "module A where\nf = §z\ng x x = y")
	wantWrong(t, api.ErrTwice, "module A where\ng x §x = y\nf = z")
	wantWrong(t, api.ErrUnknown, "module A where\ng x = §y where { x = 1; x = 2 }")
	wantWrong(t, api.ErrTwice, "module A where\nf x §x = 1 + 2")
	wantWrong(t, api.ErrUnknown, "module A where\nf = §do { x }")
	// module by module, in their order
	wantWrong(t, api.ErrUnknown, "module B where\nf = 1\nf = 2", "module A where\nf = §x")
	wantWrong(t, api.ErrUnknown, "module A where\nimport B\nf = 1\nf = 2", "module B where\nf = §x")
	wantWrong(t, api.ErrTwice, "module A where\nimport B (y)", "module B (x) where\nf = 1\n§f = x")
	wantWrong(t, api.ErrImport, "module A (f) where\nimport B (§y)\nf = x", "module B where")
	wantWrong(t, api.ErrUnknown, "module A where\nf = x", "module Prelude where\nf = §x")
}

// moved is a module in which all nodes that a § stands at have the position
// 1000, 1, as parsers give it to none.
func moved(t *testing.T, text string) api.Node {
	t.Helper()
	n := tree(t, strings.ReplaceAll(text, "§", ""))
	line := 1
	for part := range strings.Lines(text) {
		for {
			before, after, found := strings.Cut(part, "§")
			if !found {
				break
			}
			move(&n, line, len(before)+1)
			part = before + after
		}
		line++
	}
	return n
}

func move(n *api.Node, line, col int) {
	if n.Line == line && n.Col == col {
		n.Line, n.Col = 1000, 1
	}
	for i := range n.Subs {
		move(&n.Subs[i], line, col)
	}
}

// P4.2: what hangs on a name that refers to nothing, or to several entities,
// is not told; all else is.
func TestHangsOnUnknown(t *testing.T) {
	m, n := "module M where\nclass K k where m :: k\ndata T = C { l :: T }", "module N where\nclass K k where m :: k\ndata T = C { l :: T }"
	for _, c := range []struct {
		number    api.Errno
		line, col int
		text      string
	}{
		{api.ErrUnknown, 1000, 1, "f = 1 §D { x = 1 }"},
		{api.ErrUnknown, 1000, 1, "f (§D { x = 1 }) = 1"},
		{api.ErrMany, 1000, 1, "f = 1 §C { x = 1 }"},
		{api.ErrMany, 1000, 1, "f (§C { x = 1 }) = 1"},
		{api.ErrUnknown, 1000, 1, "§instance J Int where x = 1"},
		{api.ErrMany, 1000, 1, "§instance K Int where x = 1"},
		{api.ErrUnknown, 1000, 1, "data J = J\n§instance J Int where x = 1"},
		{api.ErrUnknown, 1000, 1, "§instance Int Int where x = 1"},
		{api.ErrTwice, 4, 18, "f = 1 §D { x = 1, x = 2 }"},
		{api.ErrTwice, 4, 15, "f (§C { x = 1, x = 2 }) = 1"},
		{api.ErrUnknown, 4, 15, "f = 1 §D { x = y }"},
		{api.ErrMany, 4, 12, "f (§D { x = C }) = 1"},
		{api.ErrTwice, 4, 31, "§instance J Int where { x = 1; x = 2 }"},
		{api.ErrTwice, 4, 31, "§instance K Int where { x = 1; x = 2 }"},
		{api.ErrUnknown, 4, 26, "§instance J Int where x = y"},
		{api.ErrTwice, 4, 16, "§instance J (a, a)"},
		{api.ErrUnknown, 5, 12, "class L l\n§instance L a => J Int"},
	} {
		got := diagOf(t, tree(t, m), tree(t, n), moved(t, "module Z where\nimport M\nimport N\n"+c.text))
		if want := (api.Diag{File: "Z", Line: c.line, Col: c.col, Number: c.number}); got != want {
			t.Errorf("%q:\ngot  %+v\nwant %+v", c.text, got, want)
		}
	}
}

// P4.2: the first of several errors is the first one in the tree, or the one
// with the smallest position, as the promise says: here these are not the
// same.
func TestFirstByTreeOrPlace(t *testing.T) {
	for _, c := range []struct {
		number    api.Errno
		line, col int
		text      string
	}{
		{api.ErrTwice, 1000, 1, "module A where\nf = 1\n§f = 2\nf = 3\n"},
		{api.ErrTwice, 1000, 1, "module A where\nf = 1\n§f = 2\ng = 1\ng = 2"},
		{api.ErrTwice, 1000, 1, "module A where\ndata T = §(:) | (:)"},
		{api.ErrExport, 1000, 1, "module A (§x, y) where"},
		{api.ErrImport, 1000, 1, "module A where\nimport Prim (§x, y)"},
		{api.ErrImport, 1000, 1, "module A where\n§import X\nimport Y"},
		{api.ErrCycle, 1000, 1, "module A where\nimport Prim\n§import A\nimport A"},
		{api.ErrUnknown, 2, 7, "module A where\nf = §x y"},
		{api.ErrUnknown, 3, 5, "module A where\nf = §x\ng = y"},
		{api.ErrTwice, 2, 5, "module A where\nf §x x = 1"},
		{api.ErrTwice, 1000, 1, "module A where\nf x §x = 1"},
		{api.ErrTwice, 2, 7, "module A where\nf x §x x = 1"},
	} {
		got := diagOf(t, moved(t, c.text))
		if want := (api.Diag{File: "A", Line: c.line, Col: c.col, Number: c.number}); got != want {
			t.Errorf("%q:\ngot  %+v\nwant %+v", c.text, got, want)
		}
	}
}

// place gives all nodes one position.
func place(n *api.Node, line, col int) {
	n.Line, n.Col = line, col
	for i := range n.Subs {
		place(&n.Subs[i], line, col)
	}
}

// P4.2: at one position ErrUnknown goes ahead of ErrMany, and that ahead of
// ErrTwice, wherever they stand in the tree.
func TestSamePlace(t *testing.T) {
	m, n := tree(t, "module M where\nh = 1\ndata T = C"), tree(t, "module N where\nh = 1\ndata T = C")
	for _, c := range []struct {
		number api.Errno
		text   string
	}{
		{api.ErrTwice, "f x x = 1"},
		{api.ErrMany, "f x x = h"},
		{api.ErrMany, "f = h\ng x x = 1"},
		{api.ErrUnknown, "f x x = y"},
		{api.ErrUnknown, "f = y\ng x x = 1"},
		{api.ErrUnknown, "f = h y"},
		{api.ErrUnknown, "f = y h"},
		{api.ErrUnknown, "f x x = h y"},
		{api.ErrUnknown, "f = y\ng = h\nk x x = 1"},
		{api.ErrUnknown, "infix 1 `h`"},
		{api.ErrUnknown, "infix 1 `C`"},
		{api.ErrUnknown, "class K k\ninstance K Int where { x = 1; x = 2 }"},
		{api.ErrMany, "f x = x { h = 1, h = 2 }"},
		{api.ErrUnknown, "f x = x { f = 1, f = 2 }"},
	} {
		for _, at := range [][2]int{{0, 0}, {3, 4}, {-3, -4}} {
			z := tree(t, "module Z where\nimport M\nimport N\n"+c.text)
			place(&z, at[0], at[1])
			want := api.Diag{File: "Z", Line: at[0], Col: at[1], Number: c.number}
			if got := diagOf(t, m, n, z); got != want {
				t.Errorf("%q:\ngot  %+v\nwant %+v", c.text, got, want)
			}
		}
	}
}

// P4.2: positions are held against each other by line, then by column.
func TestSmallestPlace(t *testing.T) {
	for _, c := range [][4]int{{1, 9, 2, 1}, {2, 1, 2, 2}, {-1, 5, 0, 0}, {0, -5, 0, 0}, {1, 1, 1, 1}, {-5, 1, -4, -9}} {
		for _, swapped := range []bool{false, true} {
			n := tree(t, "module A where\nf = x y")
			first, second := &n.Subs[2].Subs[0].Subs[0].Subs[1].Subs[0].Subs[0].Subs[1].Subs[0], &n.Subs[2].Subs[0].Subs[0].Subs[1].Subs[0].Subs[0].Subs[1].Subs[1]
			if swapped {
				first, second = second, first
			}
			first.Line, first.Col, second.Line, second.Col = c[0], c[1], c[2], c[3]
			want := api.Diag{File: "A", Line: c[0], Col: c[1], Number: api.ErrUnknown}
			if got := diagOf(t, n); got != want {
				t.Errorf("%v %v: %+v", c, swapped, got)
			}
		}
	}
}
