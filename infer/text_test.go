package infer_test

import (
	"slices"
	"strconv"
	"strings"
	"testing"

	"teasel/api"
	"teasel/infer"
)

// The text of a scheme.
func TestTexts(t *testing.T) {
	const data = "data F f a = F (f a)\ndata G a b = G a b\nclass K k where { k :: k -> b -> k }\nclass Zq q where { zq :: q -> Int }\n"
	for _, x := range []struct{ want, text string }{
		{"(a -> b) -> (c -> a) -> c -> b", "f g h x = g (h x)"},
		{"((a -> b) -> c) -> (a -> b) -> c", "f g h = g (\\x -> h x)"},
		{"(a -> b) -> [(a, [c])] -> (c, a, ()) -> Int", "f g ((x, [z]) : _) (w, y, ()) = const 1 ([g x, g y], [z, w])"},
		{"Maybe (Maybe a) -> Maybe [a] -> Either (a -> Bool) (Either b Int)", "f (Just (Just x)) (Just [y]) = if True then Left (\\z -> const True [x, y, z]) else Right (Right 1)"},
		{"IO [a] -> IO ()", "f m = primBind m (\\x -> case x of { [] -> return (); [y] -> return () })"},
		// Preds in the order of the names of their classes, and of their texts.
		{"Eq a => a -> Bool", "f x = x == x"},
		{"(Eq a, Ord a, Show a) => a -> [Int]", "f x = if x <= x then show x else if x == x then [] else show [x]"},
		{"(Eq b, Eq c, Show a, Show c) => a -> b -> c -> [Int]", "f x y z = if y == y && z == z then show (x, z) else []"},
		{"(K a, Zq a) => a -> a", "f x = if zq x == 1 then k x 1 else k x True"},
		{"(Eq a, Eq b, Eq c) => a -> b -> c -> Bool", "f x y z = z == z && y == y && x == x"},
	} {
		wantType(t, x.want, "import Prim\nimport Prelude\n"+data+x.text)
	}
	// A type that is applied stands in parentheses, which come ahead of letters.
	wantType(t, "(Eq (a (b -> c)), Eq (a [b]), Eq d) => G (a (b -> c)) (a [b]) -> H a b c -> d -> Bool",
		"data G a b = G a b\ndata H f b c = H (f [b]) (f (b -> c))\nf (G x y) (H v w) z = const (x == x && y == y && z == z) ([x, w], [y, v])")
	wantType(t, "(Eq (a (Maybe b) (c, (), d -> d)), Eq (a Int Bool), Eq (a b b)) => T a b c d -> Bool",
		"data T f a b c = T (f Int Bool) (f (Maybe a) (b, (), c -> c)) (f a a)\nf (T x y z) = z == z && y == y && x == x")
	// An arrow that is not applied to both is an application.
	wantTypes(t, "f : P (-> a) b -> a -> b", "data P f a = P (f a)\nf (P g) x = g x")
	wantTypes(t, "f : P [] a -> [a]\ng : P (Either a) b -> Either a b\nh : Q (,) a b -> (a, b)\ni : Q -> a b -> a -> b", "data P f a = P (f a)\ndata Q f a b = Q (f a b)\nf (P [x]) = [x]\ng (P (Left x)) = Left x\ng (P y) = y\nh (Q (x, y)) = (x, y)\ni (Q g) x = g x")
}

// Names of types and classes are written without their modules, also if others
// are named alike.
func TestModuleNames(t *testing.T) {
	a := "module A where\ndata T = T\ndata Int = I Prim\ndata Prim = Prim\nclass Eq a where { eq :: a -> a -> T }\ng = (T, I)\n"
	b := "module B where\nimport A (eq)\nimport A (g)\nimport Prelude\ndata T = U\ndata P f = P (f T)\nf x = (x == x, eq x x)\nh = (g, U)\nk (P x) = (x == x, [eq x x], \\y -> [x, y])\n"
	wantTypes(t, `A.g : (T, Prim -> Int)
		B.f : (Eq a, Eq a) => a -> (Bool, T)
		B.h : ((T, Prim -> Int), T)
		B.k : (Eq (a T), Eq (a T)) => P a -> (Bool, [T], a T -> [a T])`, a, b)
}

// Variables are named a to z, a1 to z1, and so on, as they occur in the type.
func TestVariableNames(t *testing.T) {
	const count = 80
	name := func(i int) string {
		letter := string(rune('a' + i%26))
		if i >= 26 {
			letter += strconv.Itoa(i / 26)
		}
		return letter
	}
	var parameters, arrows, preds []string
	for i := range count {
		parameters = append(parameters, "x"+strconv.Itoa(i))
		arrows = append(arrows, name(i)+" -> ")
		preds = append(preds, "Eq "+name(i))
	}
	head := "f " + strings.Join(parameters, " ") + " = "
	wantType(t, strings.Join(arrows, "")+"Int", head+"1")
	text := head + "True"
	for _, p := range parameters {
		text += " && " + p + " == " + p
	}
	slices.Sort(preds)
	if preds[1] != "Eq a1" || preds[4] != "Eq b" || preds[len(preds)-1] != "Eq z2" && preds[len(preds)-1] != "Eq z1" {
		t.Fatal(preds)
	}
	wantType(t, "("+strings.Join(preds, ", ")+") => "+strings.Join(arrows, "")+"Bool", text)
	// The first place counts, not the order of parameters within.
	wantType(t, "(a -> b) -> (c, b, a) -> c", "f = \\g (z, y, x) -> const z [g x, y]")
	// Each name of a group has names for its own variables.
	wantTypes(t, "f : (Eq a, Show b) => a -> b -> [Int]\ng : (Eq b, Show a) => a -> b -> [Int]", "f x y = if x == x then g y x else show y\ng x y = f y x")
	wantTypes(t, "x : [a]\ny : a -> b -> b\nz : a", "(x, y, z) = ([], \\u v -> v, error)")
}

// P9.1: values are in the order of the tree, module by module in dependency
// order, and nothing else is among them.
func TestOrder(t *testing.T) {
	a := "module Z where\ndata T = C { l :: T }\nclass K k where { m :: k -> T }\nb x = a x\n((y, z@[w]) : _, P { p = u, q = v }) = c\na x = x\ninstance K T where { m x = x }\nd = 1\n_ = 2\nc = error\ndata P = P { p :: T, q :: [T] }\n"
	b := "module A where\nimport Z\nimport Prelude\nf = let g = 1 in b g\nx `op` y = x\n(+++) = const\n"
	mods := trees(t, b, api.Prelude, a)
	all, d := infer.Types(mods...)
	var names []string
	for _, x := range all {
		names = append(names, x.Name+" : "+x.Type)
	}
	want := lines(`Z.b : a -> a
		Z.y : a
		Z.z : [a]
		Z.w : a
		Z.u : T
		Z.v : [T]
		Z.a : a -> a
		Z.d : Int
		Z.c : a
		A.f : Int
		A.op : a -> b -> a
		A.+++ : a -> b -> a`)
	if len(names) < 41 || d != (api.Diag{}) {
		t.Fatal(d, names)
	}
	if got := strings.Join(names[41:], "\n"); got != want {
		t.Errorf("got\n%s\nwant\n%s", got, want)
	}
	if names[0] != "Prelude.digits : Int -> [Int] -> [Int]" || names[5] != "Prelude.quot : Int -> Int -> Int" {
		t.Error(names[:6])
	}
	slices.Reverse(mods)
	if again, d := infer.Types(mods...); d != (api.Diag{}) || !slices.Equal(all, again) {
		t.Error("another order of modules:", d)
	}
	// Modules without values, and no modules.
	if all, d := infer.Types(tree(t, "module M where\ndata T = T\nclass K k where { m :: k }\ninstance K T where { m = T }")); len(all) != 0 || d != (api.Diag{}) {
		t.Error(all, d)
	}
	if all, d := infer.Types(); len(all) != 0 || d != (api.Diag{}) {
		t.Error(all, d)
	}
}
