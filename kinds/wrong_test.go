package kinds_test

import (
	"strconv"
	"strings"
	"testing"

	"teasel/api"
	"teasel/fix"
	"teasel/kinds"
)

// P6.2: the chapter's examples.
func TestWrongExamples(t *testing.T) {
	for _, declaration := range []string{
		"§data W f = D (f f)",
		"§data X = E Maybe",
		"§class G a where { n :: Int }",
		"§instance Monad Int",
		"data V f a = C (f a)\n§instance Eq f => Monad (V f)",
	} {
		wantWrong(t, api.ErrKind, "module M where\n"+declaration, api.Prelude)
		wantWrong(t, api.ErrKind, api.Prelude, "module M where\n"+declaration)
	}
}

// P6.2: each constraint of a DData.
func TestWrongData(t *testing.T) {
	for _, declaration := range []string{
		// Each type of a DCon or DField has the kind *.
		"§data T = A IO",
		"§data T = A Int IO Int",
		"§data T = A | B (->)",
		"§data T = A | B (Int, Int) | C ((->) Int)",
		"§data T a = A T",
		"§data T a b = A (T a)",
		"§data T = A { l :: IO }",
		"§data T = A { l :: Int, m :: (,) Int, n :: Int }",
		"§data T = A { l :: Int } | B { l' :: [] }",
		// What is applied has an arrow.
		"§data T = A (Int Int)",
		"§data T = A (T Int)",
		"§data T a = A (T a a)",
		"§data T = A (IO Int Int)",
		"§data T = A { l :: Bool Int }",
		"§data T = A ([Int] Int)",
		"§data T = A ((Int -> Int) Int)",
		// It takes arguments of that kind.
		"§data T = A (IO IO)",
		"§data T = A (IO (IO IO))",
		"§data T a = A (T (T))",
		"§data T f = A (f Int) (T Int)",
		"§data T f = A (T Int) (f Int)",
		"§data T f = A (T IO) f",
		"§data T f g = A (f IO) (g Int) (f g) (T Int Int)",
		// A variable has one kind.
		"§data T f = A (f Int) f",
		"§data T f = A (f Int) (f IO)",
		"§data T f = A (f Int) (f Int Int)",
		"§data T f = A (f Int -> f)",
		"§data T f a = A (f a) (a Int) (f Int)",
		// A kind is no part of itself.
		"§data T f = A (f f)",
		"§data T f = A (f (f f))",
		"§data T f g = A (f g) (g f)",
		"§data T f g h = A (f g) (g h) (h f)",
		"§data T f = A (f T)",
		"§data T f g = A (f T) (T g f)",
		"§data T a = A (T T)",
	} {
		wantKindError(t, declaration)
	}
}

// P6.2: each constraint of a DClass.
func TestWrongClass(t *testing.T) {
	for _, declaration := range []string{
		// Its variable is in the type of each DMethod.
		"§class K k where { m :: Int }",
		"§class K k where { m :: a }",
		"§class K k where { m :: k; n :: a -> a }",
		"§class K k where { m :: k; n :: Int; o :: k }",
		"§class K k where { m :: f a -> f b }",
		// Each type of a DMethod has the kind *.
		"§class K k where { m :: [] }",
		"§class K k where { m :: (->) k }",
		"§class K k where { m :: k; n :: (,) k }",
		// What is applied has an arrow, and takes arguments of that kind.
		"§class K k where { m :: Int k }",
		"§class K k where { m :: IO k k }",
		"§class K k where { m :: [k] -> [k Int] }",
		"§class K k where { m :: a -> a b -> k }",
		"§class K k where { m :: k IO -> k Int }",
		"§class K k where { m :: k IO; n :: k Int }",
		"§class K k where { m :: k; n :: k Int }",
		"§class K k where { m :: f IO -> f Int -> k }",
		// A kind is no part of itself.
		"§class K k where { m :: k k }",
		"§class K k where { m :: k a -> a k }",
		"§class K k where { m :: a a -> k }",
		"§class K k where { m :: k; n :: f g -> g f -> k }",
	} {
		wantKindError(t, declaration)
	}
	// A DClass is no type.
	wantWrong(t, api.ErrUnknown, "module M where\nclass K k\ndata T = A (§K Int)")
	wantWrong(t, api.ErrUnknown, "module M where\nclass K k where m :: k -> §K")
}

// P6.2: the first one in the order of the tree for which those up to it have
// no solution, even if it stands ahead of those that it uses, or if another
// one could be blamed as well.
func TestFirstWithoutSolution(t *testing.T) {
	for _, declarations := range []string{
		// Of the later ones the numbers of variables are considered.
		"§data S = B T\ndata T a = A a",
		"§data S = B (T Int)\ndata T = A",
		"§data S = B (T Int)\ndata T a b = A",
		"§data S = B (T Int Int)\ndata T a = A",
		"§data S f = B (f T) (f Int)\ndata T a = A",
		"§data S f = B (f T) (f IO) (f (->))\ndata T a = A",
		"§class K k where { m :: k T -> k Int }\ndata T a = A",
		"§data S = B (T IO) (T Int)\ndata T a = A",
		"§data S = B (T U) (T Int)\ndata T a = A\ndata U b = C (T U)",
		"§data S f = B (f T) (T f)\ndata T a = A",
		"§data S = B (T T)\ndata T a = A",
		// Nothing else of them.
		"data S = B (T IO)\n§data T a = A a",
		"data S = B (T U)\n§data T a = A a\ndata U b = C (T U)",
		"data S = B (T Int)\n§data T f = A (f Int)",
		"data S f = B (T f) (f Int)\n§data T a = A a",
		"data S = B (T Int)\n§data T a = A (a a)",
		"data S a = B (T a)\n§data T a = A (S IO) (S Int)",
		"data S a = B (T a)\ndata T a = A (S IO)\n§data U = C (T Int)",
		"data U = C (T Int)\ndata S a = B (T a)\n§data T a = A (S IO)",
		"data T a = A (S IO)\ndata U = C (T Int)\ndata V = D (S IO)\n§data S a = B (T a)",
		"class K k where m :: T k -> k\n§class L k where m' :: T k -> k Int\ndata T a = A",
		"class K k where m :: T k -> k\nclass L k where m' :: U k -> k Int\n§data T a = A (U a)\ndata U a = B (T a)",
		"data S f = B (f T)\ndata T g = A (U g)\n§data U h = C (S h)",
		"data T a = A (U a)\n§data X f = D (f X)\ndata U a = B (a a)",
		// Those behind the first one may be wrong too.
		"§data S = B IO\ndata T = A IO",
		"data R = C\n§data S = B IO\ndata T = A IO\nclass K k where m :: Int",
		"data R = C\n§class K k where m :: Int\ndata S = B IO",
		"data R = C\n§data S = B R IO\nclass K k where m :: Int",
		"data P = Q\ndata R = C\n§data S = B (S S)\ndata T = A (R R)\ndata U = D (P P)",
	} {
		wantKindError(t, declarations)
	}
}

// P6.2: any of many may be the first one.
func TestFirstOfMany(t *testing.T) {
	for count := 1; count <= 12; count++ {
		for wrong := range count {
			// A chain whose ends do not fit, where one more of them is wrong.
			var lines []string
			for i := range count {
				lines = append(lines, "data T"+strconv.Itoa(i)+" a = C"+strconv.Itoa(i)+" (T"+strconv.Itoa((i+1)%count)+" a)")
			}
			lines[wrong] = "§" + lines[wrong] + " (a a)"
			for i := wrong + 1; i < count; i++ {
				lines[i] += " IO"
			}
			wantKindError(t, strings.Join(lines, "\n"))
		}
		// One around which the chain is closed: only all of them are wrong.
		var lines []string
		for i := range count {
			lines = append(lines, "data T"+strconv.Itoa(i)+" a = C"+strconv.Itoa(i)+" (T"+strconv.Itoa(i+1)+" a)")
		}
		lines = append(lines, "data T"+strconv.Itoa(count)+" a = D (a Int)", "§data S = B (T0 Int)", "data Z = Z IO")
		wantKindError(t, strings.Join(lines, "\n"))
	}
}

// P6.2: a kind of more than 64 stars, once there is a solution for all.
func TestTooManyStars(t *testing.T) {
	for _, declarations := range []string{
		"§data T" + many("a", 64),
		"§data T" + many("a", 500),
		"§data T f = A (f" + strings.Repeat(" Int", 63) + ")",
		"§data T f" + many("a", 31) + " b = A (f" + many("a", 31) + ")",
		"§class K f where m :: f" + many("a", 64),
		"§class K f where m :: f" + strings.Repeat(" IO", 32),
		"data R = B\n§data T" + many("a", 64) + "\ndata S" + many("a", 64),
		"data R" + many("a", 63) + "\n§class K f where m :: f" + many("a", 64) + "\ndata S" + many("a", 64),
		// One whose kind becomes so great by a later one.
		"§data T a = A\ndata S f = B (T f) (f" + strings.Repeat(" Int", 64) + ")",
		"§data T a = A\ndata S = B (T U)\ndata U" + many("a", 63),
		"data U" + many("a", 63) + "\n§data T a = A\ndata S = B (T U)",
		"data T f = A (f Int)\n§data S g = B (g" + strings.Repeat(" T", 32) + ")",
		// An instance that is not well-kinded comes behind it.
		"data U\ninstance K U\nclass K k where m :: k Int\n§data T" + many("a", 64),
		"instance K Int\nclass K k where m :: k Int\n§data T" + many("a", 64) + "\ninstance K Bool",
		"§data T" + many("a", 64) + "\nclass K k\ninstance K T",
	} {
		wantKindError(t, declarations)
	}
	// One without a solution comes ahead of it, wherever it stands.
	for _, wrong := range []string{"§data S = B IO", "§class K k where m :: Int", "§data S f = B (f f)"} {
		wantKindError(t, "data T"+many("a", 64)+"\n"+wrong)
		wantKindError(t, wrong+"\ndata T"+many("a", 64))
		wantKindError(t, "data T"+many("a", 64)+"\ninstance L Int\nclass L l where l :: l Int\n"+wrong)
	}
}

const forInstances = `class Star a where star :: a
class One f where one :: f Int
class Two f where two :: f Int Int
class Three f where three :: f Int Int Int
class High f where high :: f IO
class Mixed f where mixed :: f IO Int
class Free a
data D = D
data T a = A a
data V f a = C (f a)
data W a b c = E
data H f = F (f Int)
data X a h b = G (h Int) a b
`

// P6.1: instances that are well-kinded.
func TestRightInstances(t *testing.T) {
	for _, instances := range []string{
		"instance Star Int\ninstance Star Bool\ninstance Star ()\ninstance Star D\ninstance Free Int",
		"instance Star (IO a)\ninstance Star [a]\ninstance Star (a, b)\ninstance Star (a -> b)\ninstance Star (a, b, c)",
		"instance One IO\ninstance One []\ninstance One T",
		"instance Two (,)\ninstance Two (->)\ninstance Two (W a)\ninstance Three (,,)\ninstance Three W",
		"instance Star (T a)\ninstance Star (V f a)\ninstance Star (W a b c)\ninstance One (W a b)\ninstance One (V f)\ninstance Mixed V",
		"instance High H\ninstance Star (H f)\ninstance Star (X a h b)\ninstance One (X a h)\ninstance Mixed (X a)",
		"instance Star a => Star (T a)\ninstance Free a => Star [a]\ninstance (Star a, Free a, Star a) => Star (IO a)",
		"instance One f => One (V f)\ninstance (One f, Star a) => Star (V f a)\ninstance (Star a, One f) => Star (V f a)",
		"instance (One h, Star a, Star b) => Star (X a h b)",
		"instance (Star a, Star b, Star c) => Star (a, b, c)\ninstance (Star a, Free b) => Star (a -> b)\ninstance Star a => One (W a b)",
		"instance () => Star (T a)",
	} {
		kindsOf(t, tree(t, "module M where\n"+forInstances+instances))
	}
}

// P6.2: a DInst that is not well-kinded.
func TestWrongInstances(t *testing.T) {
	for _, instances := range []string{
		// The type has another kind than the class.
		"§instance One Int",
		"§instance One D",
		"§instance One ()",
		"§instance One (T a)",
		"§instance One (,)",
		"§instance One (W a)",
		"§instance One (a, b)",
		"§instance One [a]",
		"§instance One (a -> b)",
		"§instance One H",
		"§instance Star IO",
		"§instance Star T",
		"§instance Star (V f)",
		"§instance Star (->)",
		"§instance Star (,,)",
		"§instance Free T",
		"§instance Two V",
		"§instance Two T",
		"§instance Three (,)",
		"§instance High T",
		"§instance High IO",
		"§instance Mixed (,)",
		"§instance Mixed X",
		// The type has too many arguments.
		"§instance Star (Int a)",
		"§instance Star (D a)",
		"§instance Star (T a b)",
		"§instance Star (W a b c d)",
		"§instance One (T a b)",
		"§instance Star (IO a b c)",
		// The variable of a DPred has another kind than its class.
		"§instance Star f => One (V f)",
		"§instance One a => Star (T a)",
		"§instance One a => Star [a]",
		"§instance Star f => Star (V f a)",
		"§instance One a => Star (V f a)",
		"§instance (One f, One a) => Star (V f a)",
		"§instance (Star f, Star a) => Star (V f a)",
		"§instance (One f, One f, Star f) => One (V f)",
		"§instance Free f => Star (H f)",
		"§instance High f => Star (H f)",
		"§instance Two f => Star (H f)",
		"§instance One h => Star (X h a b)",
		"§instance Two b => Star (a -> b)",
		"§instance (Star a, Star b, One c) => Star (a, b, c)",
		// The first of several.
		"instance Star Int\n§instance One Int\ninstance Star IO\ninstance One IO",
		"instance One IO\n§instance Star a => One (V a)\ninstance One Int",
	} {
		wantKindError(t, forInstances+instances)
		wantKindError(t, instances+"\n"+forInstances)
	}
	// Those of imported classes and types.
	for _, instances := range []string{"§instance Star IO", "§instance Star T", "§instance One (T a)", "§instance Star f => One (V f)", "data Z\n§instance High Z"} {
		wantWrong(t, api.ErrKind, "module A where\nimport M\n"+instances, "module M where\n"+forInstances)
	}
	// Errors of types come ahead of those of instances that stand ahead.
	wantKindError(t, forInstances+"instance Star IO\n§data Z = Z IO")
	wantKindError(t, "instance Star IO\n§class Z z where z :: Int\n"+forInstances+"instance Star T")
}

// P6.2: the place is that of the declaration, not of what is wrong in it.
func TestPlaces(t *testing.T) {
	wantKindError(t, "data R = A;   §data S\n   = B IO")
	wantKindError(t, " f = 1; §class K\n  k where\n   m :: k\n   n ::\n    Int\n g = 2")
	wantKindError(t, "class K k where { m :: k Int }; §instance\n K\n Int where\n  m = 1")
	for _, declaration := range []api.Node{
		data("T", "", con("IO")),
		class("T", "a", con("Int")),
		data("T", strings.Join(strings.Fields(many("a", 64)), " ")),
		instance("K", con("IO")),
	} {
		for _, place := range [][2]int{{7, 9}, {-3, 0}, {0, 0}, {1 << 40, -1 << 40}} {
			m := module("M", at(class("K", "k"), 5, 5), at(declaration, place[0], place[1]), at(data("Z", ""), 6, 6))
			want := api.Diag{File: "M", Line: place[0], Col: place[1], Number: api.ErrKind}
			if got := diagOf(t, at(m, 3, 3)); got != want {
				t.Errorf("got  %+v\nwant %+v", got, want)
			}
		}
	}
}

// P6.2: the first one is that in the order of the tree, whatever the
// positions say.
func TestTreeOrder(t *testing.T) {
	wide := strings.Join(strings.Fields(many("a", 64)), " ")
	want := api.Diag{File: "M", Line: 9, Col: 9, Number: api.ErrKind}
	hold := func(declarations ...api.Node) {
		t.Helper()
		if got := diagOf(t, module("M", declarations...)); got != want {
			t.Errorf("got  %+v\nwant %+v", got, want)
		}
	}
	k := class("K", "k")
	for _, c := range [][2]api.Node{
		{data("S", "", con("IO")), data("T", "", con("IO"))},
		{class("S", "s", con("Int")), data("T", "", con("IO"))},
		{data("S", "", con("IO")), class("T", "t", con("Int"))},
		{data("S", wide), data("T", wide)},
		{instance("K", con("IO")), instance("K", con("[]"))},
	} {
		hold(k, at(c[0], 9, 9), at(c[1], 2, 2))
		hold(k, at(c[0], 9, 9), at(c[1], 9, 10))
	}
	// What comes first by its sort does so behind the other one too.
	for _, c := range [][2]api.Node{
		{data("S", "", con("IO")), data("T", wide)},
		{data("S", "", con("IO")), instance("K", con("IO"))},
		{data("S", wide), instance("K", con("IO"))},
	} {
		hold(k, at(c[0], 9, 9), at(c[1], 2, 2))
		hold(k, at(c[1], 2, 2), at(c[0], 9, 9))
	}
}

// P6.2: the first module, in order, that has an error.
func TestFirstModule(t *testing.T) {
	const wide = " a b c d e f g h i j k l m n o p q r s t u v w x y z"
	great := "data T" + strings.ReplaceAll(wide, " ", " a") + strings.ReplaceAll(wide, " ", " b") + strings.ReplaceAll(wide, " ", " c")
	for _, c := range []struct {
		number api.Errno
		texts  []string
	}{
		{api.ErrKind, []string{"module B where\n\ndata T = C IO", "module A where\n§data T = C IO"}},
		{api.ErrKind, []string{"module A where\n§data T = C IO", "module B where\n\ndata T = C IO"}},
		{api.ErrKind, []string{"module A where\nimport B\ndata S = D IO", "module B where\n§data T = C IO"}},
		{api.ErrKind, []string{"module A where\nimport B\n§data S = D IO", "module B where\ndata T = C Int"}},
		{api.ErrKind, []string{"module B where\nimport A\n§data S = D T", "module A where\ndata T a = C"}},
		{api.ErrKind, []string{"module B where\nimport A\n§data S = D (T IO)", "module A where\ndata T a = C"}},
		{api.ErrKind, []string{"module B where\nimport A\n§data S = D (T Int)", "module A where\ndata T a = C\ndata U = E (T IO)"}},
		{api.ErrKind, []string{"module B where\nimport A\n§instance K Int", "module A where\nclass K k where m :: k Int"}},
		{api.ErrKind, []string{"module B where\nimport A\n§instance K IO", "module A where\nclass K k"}},
		// All errors of a module come ahead of those of the next one.
		{api.ErrKind, []string{"module B where\ndata T = C IO", "module A where\nclass K k\n§instance K IO"}},
		{api.ErrKind, []string{"module B where\ndata T = C IO", "module A where\n§" + great}},
		{api.ErrKind, []string{"module B where\n" + great, "module A where\nclass K k\n§instance K IO"}},
		{api.ErrKind, []string{"module C where\ndata T = C IO", "module B where\n§" + great, "module A where\ndata T = C"}},
		// Errors of fix.Mend come ahead of all, in whatever module.
		{api.ErrUnknown, []string{"module A where\ndata T = C IO", "module B where\nf = §g"}},
		{api.ErrUnknown, []string{"module A where\ndata T = C IO\nf = §g"}},
		{api.ErrUnknown, []string{"module A where\ndata T = C IO §U"}},
		{api.ErrTwice, []string{"module A where\ndata T = C IO\n§data T = D IO"}},
		{api.ErrTwice, []string{"module A where\ndata T a §a = C IO"}},
		{api.ErrImport, []string{"module A where\n§import C\ndata T = C IO"}},
		{api.ErrMix, []string{"module A where\ndata T = C IO", "module B where\ninfix 3 +\n(+) = 1\nf = 1 + 2 §+ 3"}},
		{api.ErrFix, []string{"module A where\ndata T = C IO", "module B where\ninfix 3 +, §+\n(+) = 1\n"}},
	} {
		wantWrong(t, c.number, c.texts...)
	}
}

// P6.2: the error is that of fix.Mend, for modules of all sorts.
func TestErrorsOfMend(t *testing.T) {
	right := data("T", "a", con("Int"))
	wrong := data("U", "", con("IO"))
	for _, mods := range [][]api.Node{
		{{}},
		{node(api.List)},
		{module("m")},
		{module("Prim")},
		{module("M"), module("M")},
		{module("M", wrong), module("N", wrong), module("M", right)},
		{module("M", wrong), {}},
		{module("M", call(api.DData, "T"))},
		{module("M", data("T", "", node(api.TApp)))},
		{module("M", data("T", "", call(api.TCon, "t")))},
		{module("M", data("T", "", variable("a")))},
		{module("M", wrong, right, right)},
		{module("M", wrong, instance("T", con("Int")), right)},
		{module("M", wrong, instance("K", con("Int")))},
		{module("M", wrong, class("K", "k", con("K")))},
		{importing(module("M", wrong), "N")},
		{importing(module("M", wrong), "N"), importing(module("N"), "M")},
		{importing(module("M", wrong), "M")},
	} {
		_, want := fix.Mend(mods...)
		if want.Number == api.OK || want.Number == api.ErrKind {
			t.Fatalf("%+v has no error", mods)
		}
		if got := diagOf(t, mods...); got != want {
			t.Errorf("got  %+v\nwant %+v", got, want)
		}
	}
	if all, d := kinds.Kinds(module("M", wrong)); len(all) != 0 || d.Number != api.ErrKind {
		t.Error(all, d)
	}
}
