package desugar_test

import (
	"slices"
	"strings"
	"testing"

	"teasel/api"
)

// heavy is declarations, with which any module can be filled, of a name that has
// some 3000 preds and is used so often that dictionaries for them would be more
// than a program may be: names take types then.
var heavy = `
class Heavy m where { heavyL :: m a -> m [a]; heavyK :: m a -> m ((), a) }
class HeavyA a where { heavyA :: a -> Int }
class HeavyB a where { heavyB :: a -> Int }
class HeavyC a where { heavyC :: a -> Int }
heavy0 x = (heavyA x, heavyB x, heavyC x)
heavy1 x = [heavy0 (heavyL x), heavy0 (heavyK x)]
heavy2 x = [heavy1 (heavyL x), heavy1 (heavyK x)]
heavy3 x = [heavy2 (heavyL x), heavy2 (heavyK x)]
heavy4 x = [heavy3 (heavyL x), heavy3 (heavyK x)]
heavy5 (x, y) = [heavy4 x, heavy4 y]
heavy6 (x, y) = [heavy5 x, heavy5 y]
heavy7 (x, y) = [heavy6 x, heavy6 y]
heavy8 (x, y) = [heavy7 x, heavy7 y]
heavy9 (x, y) = [heavy8 x, heavy8 y]
heavy10 (x, y) = [heavy9 x, heavy9 y]
heavies = [` + many(39, "heavy10, ") + `heavy10]
`

// filledUp is texts, the last of which is filled with heavy.
func filledUp(texts []string) []string {
	last := len(texts) - 1
	return append(slices.Clone(texts[:last]), texts[last]+"\n"+heavy)
}

// takesTypes says whether the names of a program take types.
func takesTypes(p api.Program) bool {
	return slices.ContainsFunc(p.Binds, func(b api.Bind) bool { return b.Name == "Prim.applied" })
}

// wantBoth is for a program's outcome, whether its names take dictionaries or
// types.
func wantBoth(t *testing.T, input string, want api.Outcome, texts ...string) {
	t.Helper()
	for i, all := range [][]string{texts, filledUp(texts)} {
		p := program(t, all...)
		if takesTypes(p) != (i == 1) {
			t.Errorf("%q: takes types: %v", texts, i == 0)
		}
		if got := run(p, input); got != want {
			t.Errorf("%q: got %+v, want %+v (names take types: %v)", texts, got, want, i == 1)
		}
	}
}

// doubling is names h0, h1 and so on, each of which has twice as many preds as the
// one before it: of show and of ==, for what l and k make.
const doubling = `
class L m where { l :: m a -> m [a]; k :: m a -> m (Maybe a) }
instance L [] where { l x = map (: []) x; k x = map Just x }
instance L Maybe where { l x = fmap (: []) x; k x = fmap Just x }
data W f a = W (f a)
class F f where { elements :: f a -> [a] }
instance F [] where { elements x = x }
instance F Maybe where { elements x = case x of { Nothing -> []; Just y -> [y] } }
instance L f => L (W f) where { l (W x) = W (l x); k (W x) = W (k x) }
instance (Show a, F f) => Show (W f a) where { show (W x) = "W" ++ show (elements x) }
instance (F f, Eq a) => Eq (W f a) where { W x == W y = elements x == elements y }
`

// doubled is h0 and so on, up to one with some number.
func doubled(last int) string {
	return "h0 x = if x == x then show x else []\n" + numbered2(last, "h% x = h& (l x) ++ h& (k x)\n")
}

// inside is the same as declarations of a List.
func inside(last int) string {
	return "{ " + strings.ReplaceAll(strings.TrimSpace(doubled(last)), "\n", "; ") + " }"
}

// container is how a thing is shown that holds others, for what these are shown as.
type container func(inner ...string) string

func inList(inner ...string) string { return "[" + strings.Join(inner, ",") + "]" }

func inMaybe(inner ...string) string { return "Just " + inner[0] }

func inW(inner ...string) string { return "W" + inList(inner...) }

// wantDoubled is what h with some number writes of a container of things.
func wantDoubled(number int, in container, inner ...string) string {
	if number == 0 {
		return in(inner...)
	}
	var lists, maybes []string
	for _, x := range inner {
		lists, maybes = append(lists, inList(x)), append(maybes, inMaybe(x))
	}
	return wantDoubled(number-1, in, lists...) + wantDoubled(number-1, in, maybes...)
}

// Names of many preds, which are used at several types: they write the same,
// whether names take dictionaries or types.
func TestManyPreds(t *testing.T) {
	const p = "class P a where { p :: a -> [Int] }\ninstance P a => P [a] where { p [x] = p x }\n"
	for _, c := range []struct{ e, want, declarations string }{
		{"h4 [1, 2] ++ h4 (Just True)", wantDoubled(4, inList, "1", "2") + wantDoubled(4, inMaybe, "True"), doubled(4)},
		{"h3 [[1], []] ++ h3 (Just (1, [True]))", wantDoubled(3, inList, "[1]", "[]") + wantDoubled(3, inMaybe, "(1,[True])"), doubled(3)},
		// instances with Needs, of classes of both kinds
		{"h3 (W [1, 2]) ++ h2 (W (Just [3]))", wantDoubled(3, inW, "1", "2") + wantDoubled(2, inW, "[3]"), doubled(3)},
		{"h2 (W (W (Just 4))) ++ h2 [W [5]]", wantDoubled(2, inW, "4") + wantDoubled(2, inList, "W[5]"), doubled(2) + "instance F f => F (W f) where { elements (W x) = elements x }\n"},
		// names that use them at types of their own
		{"f [1] ++ f (Just 2)", wantDoubled(3, inList, "([1],True)") + wantDoubled(2, inList, "[1]") + wantDoubled(3, inList, "(Just 2,True)") + wantDoubled(2, inList, "Just 2"), doubled(3) + "f x = h3 [(x, True)] ++ g x\ng x = h2 [x]\n"},
		{"f [1] [2] ++ f (Just 1) (Just 3)", wantDoubled(2, inList, "(1,2)") + wantDoubled(2, inMaybe, "(1,3)"), doubled(2) + "f x y = h2 (x >>= \\a -> y >>= \\b -> return (a, b))\n"},
		// names that use each other
		{"f [1] 2", wantDoubled(1, inList, "1") + wantDoubled(2, inList, "1") + wantDoubled(1, inList, "1") + "?", doubled(2) + "f x n = if n < 0 then \"!\" else h1 x ++ g x (n - 1)\ng x n = if n < 0 then \"?\" else h2 x ++ f x (n - 1)\n"},
		// as values, and partly applied
		{"concat (map h2 [[1], [2]])", wantDoubled(2, inList, "1") + wantDoubled(2, inList, "2"), doubled(2)},
		{"concat (map (f [1]) [[2], [3]])", wantDoubled(2, inList, "1") + wantDoubled(1, inList, "2") + wantDoubled(2, inList, "1") + wantDoubled(1, inList, "3"), doubled(2) + "f x y = h2 x ++ h1 y\n"},
		// constants
		{"case q of { (x, s) -> if x == [] then [] else s }", wantDoubled(2, inList, "5"), doubled(2) + "q = (\\x -> (x, h2 x)) (return 5)\n"},
		{"case q of { (x, s) -> if x == Nothing then [] else s }", wantDoubled(2, inMaybe, "5"), doubled(2) + "q = (\\x -> (x, h2 x)) (return 5)\n"},
		// what is open
		{"h2 []", wantDoubled(2, inList), doubled(2)},
		{"f [1] ++ f [True]", strings.Repeat(wantDoubled(2, inList), 2), doubled(2) + "f x = g where { g = h2 [] }\n"},
		// in local declarations, which see what is outer
		{"let " + inside(4) + " in h4 [1] ++ h4 (Just [2])", wantDoubled(4, inList, "1") + wantDoubled(4, inMaybe, "[2]"), ""},
		{"f [7] 1 ++ f (Just 8) True", wantDoubled(4, inList, "7") + wantDoubled(1, inList, "1") + "1" + wantDoubled(4, inMaybe, "8") + wantDoubled(1, inList, "True") + "True", "f x y = let " + inside(4) + " in h4 x ++ h1 [y] ++ show y\n"},
		{"f [7] 1", wantDoubled(3, inList, "7") + "!1" + wantDoubled(3, inList, "True") + "!1", doubled(3) + "f x y = g x ++ g [True] where { g z = h3 z ++ a; a = \"!\" ++ show y }\n"},
		{"f [7] True", wantDoubled(2, inList, "(7,True)") + wantDoubled(2, inList, "(7,[[1]])"), "f x y = g y ++ g [[1]] where { g z = h2 (x >>= \\a -> return (a, z)) where " + inside(2) + " }\n"},
		{"f [7] 2 ++ f (Just 7) 2", wantDoubled(2, inList, "7") + wantDoubled(2, inList, "[2]") + wantDoubled(2, inMaybe, "7") + wantDoubled(2, inMaybe, "[2]"), doubled(2) + "f x n = h2 x ++ g n where { g z = h2 (x >>= \\a -> return [z]) }\n"},
		// within DInsts, whose types have arguments that are given and such that are not
		{"p [Just 1] ++ p [Just [2]]", wantDoubled(3, inList, "1") + wantDoubled(3, inMaybe, "[1]") + wantDoubled(3, inList, "[2]") + wantDoubled(3, inMaybe, "[[2]]"), doubled(3) + p + "instance (Show a, Eq a) => P (Maybe a) where { p (Just x) = h3 [x] ++ h3 (Just [x]) }\n"},
		{"p [Just 1] ++ p [Just [2]]", wantDoubled(2, inList, "1") + wantDoubled(3, inMaybe, "1") + wantDoubled(2, inList, "[2]") + wantDoubled(3, inMaybe, "[2]"), p + "instance (Eq a, Show a) => P (Maybe a) where { p (Just x) = h2 [x] ++ h3 (Just x) where " + inside(3) + " }\n"},
		{"p [V id 1 2] ++ p (V id [True] id)", wantDoubled(2, inList, "1") + wantDoubled(2, inList, "[True]"), doubled(2) + p + "data V a b c = V (a -> a) b c\ninstance (Eq b, Show b) => P (V a b c) where { p (V x y z) = h2 (snd (z, [y])) }\n"},
	} {
		wantBoth(t, "", wrote(c.want), "main = putBytes ("+c.e+") >> return 0\n"+doubling+c.declarations)
	}
}

// Names take no more types than there are variables, and one that has none takes
// nothing.
func TestTypesAreFew(t *testing.T) {
	p := program(t, "main = return (f 1)\nf x = length (show x)\ng = f [1]\nh x y = (x, [y])\n"+heavy)
	want := map[string]int{"Main.f": 2, "Main.g": 0, "Main.h": 2, "Main.heavy0": 2, "Main.heavy1": 3, "Main.heavy4": 3, "Main.heavy5": 5, "Main.heavy10": 129, "Main.heavies": 128}
	for _, b := range p.Binds {
		if count, found := want[b.Name]; found && len(b.Expr.Names) != count {
			t.Errorf("%s takes %d, want %d", b.Name, len(b.Expr.Names), count)
		}
	}
	if !takesTypes(p) {
		t.Error("names take dictionaries")
	}
}

// A dictionary is made once for each type, however often it is used: what each of
// these instances has twice of its part would be evaluated 2^40 times.
func TestDictionariesOfTypesAreShared(t *testing.T) {
	const declarations = `
data N a = N Int
class C a where { c :: N a; both :: N a -> N a -> N [a] }
instance C Int where { c = N 1; both (N x) (N y) = N (x + y) }
instance C a => C [a] where { c = both c c; both (N x) (N y) = N (x + y) }
data K a = K a (N a)
value x = case K x c of { K y (N n) -> n }
`
	deep := many(40, "[") + "1" + many(40, "]")
	wantBoth(t, "", done(1<<40), "main = return (value "+deep+")\n"+declarations)
}
