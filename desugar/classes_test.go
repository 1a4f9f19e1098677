package desugar_test

import (
	"strings"
	"testing"

	"teasel/api"
	"teasel/desugar"
)

// Dictionaries of each sort of class and instance.
func TestDictionaries(t *testing.T) {
	for _, c := range []struct {
		e            string
		want         api.Outcome
		declarations string
	}{
		// a DMethod: none, one and several
		{"1", done(1), "class C a\ninstance C Int\n"},
		{"c 4", done(5), "class C a where { c :: a -> Int }\ninstance C Int where { c x = x + 1 }"},
		{"c 4 * 100 + d * 10 + e 1 2", done(453), "class C a where { c :: a -> Int; d :: a; e :: a -> a -> a }\ninstance C Int where { e = (+); c x = x; d = 5 }"},
		// with fields that lack a DFun
		{"d 4", failed, "class C a where { c :: a -> Int; d :: a -> Int }\ninstance C Int where { c x = 1 }"},
		{"c 4", done(1), "class C a where { c :: a -> Int; d :: a -> Int }\ninstance C Int where { c x = 1 }"},
		{"c 4", failed, "class C a where { c :: a -> Int }\ninstance C Int"},
		{"case c 4 of { x -> 2 }", done(2), "class C a where { c :: a -> Int }\ninstance C Int"},
		// several instances, with Needs and without
		{"size [[True, False], [], [True]] * 100 + size (1, [2, 3])", done(303), size},
		{"size [(1, 2), (3, 4)] + size (Just [True]) + size (Nothing2 True)", done(4 + 1 + 1), size},
		{"size (Two [1, 2] (True, 1))", done(4), size},
		// a pred given twice is one argument
		{"size (Twice [1, 2] [True])", done(22), size + "data W a b = Twice a b\ninstance (Size b, Size a, Size b) => Size (W a b) where { size (Twice x y) = size x * 10 + size y + size y }"},
		// instances that need one another
		{"c [Just [Just 3]]", done(3), "class C a where { c :: a -> Int }\nclass D a where { d :: a -> Int }\ninstance C Int where { c x = x }\ninstance D a => C [a] where { c x = d (head x) }\ninstance C a => D (Maybe a) where { d (Just x) = c x }"},
		{"c (R 5 (L (R 2 N)))", failed, "data A a = R a (B a) | M\ndata B a = L (A a) | N\nclass C a where { c :: a -> Int }\ninstance C Int where { c x = x }\ninstance C a => C (A a) where { c (R x y) = c x + c y }\ninstance C a => C (B a) where { c (L x) = c x }"},
		{"c (R 5 (L (R 2 (L M))))", done(7), "data A a = R a (B a) | M\ndata B a = L (A a) | N\nclass C a where { c :: a -> Int }\ninstance C Int where { c x = x }\ninstance C a => C (A a) where { c (R x y) = c x + c y; c M = 0 }\ninstance C a => C (B a) where { c (L x) = c x; c N = 0 }"},
		// variables of a higher kind
		{"sum (fmap (+ 1) [1, 2]) + unJust (fmap (* 2) (Just 4))", done(13), "unJust (Just x) = x"},
		{"sum (un (fmap (+ 1) (W [1, 2])))", done(5), "data W f a = W (f a)\ninstance Functor f => Functor (W f) where { fmap g (W x) = W (fmap g x) }\nun (W x) = x"},
		{"c (W (Just 3))", done(3), "data W f a = W (f a)\nclass C a where { c :: a -> Int }\nclass F f where { un :: f a -> a }\ninstance C Int where { c x = x }\ninstance F Maybe where { un (Just x) = x }\ninstance (F f, C a) => C (W f a) where { c (W x) = c (un x) }"},
		{"run1 (c 3) 4", done(34), "data R r a = R (r -> a)\nrun1 (R f) = f\nclass M m where { c :: Int -> m Int Int }\ninstance M (->) where { c x = \\y -> x * 10 + y }\ninstance M R where { c x = R (c x) }"},
		// open variables
		{"length (show [])", done(2), ""},
		{"c", done(7), "class C a where { d :: a -> Int; e :: a }\ninstance C Int where { d x = x; e = 7 }\nc = d e"},
		{"f 1", done(8), "class C a where { d :: a -> Int; e :: a }\ninstance C Int where { d x = x; e = 7 }\nf y = y + d e"},
		{"x + length (show y)", done(1), "(x, y) = (const 0 y, if y == y then y else y) where y = 0 * 7"},
		// methods whose own schemes have variables
		{"c 1 [1, 2] True", done(1), "class C a where { c :: a -> [b] -> d -> a }\ninstance C Int where { c x y z = x }"},
		{"length (c 1 [1, 2])", done(2), "class C a where { c :: a -> [b] -> [b] }\ninstance C Int where { c 0 y = y; c x y = reverse (c (x - 1) y) }"},
		// a method's local functions with preds
		{"c [3, 4]", done(2*5 + 112), "class C a where { c :: a -> Int }\ninstance Show a => C [a] where { c l = size1 l + k where { size1 x = length (f x) where { f y = show y ++ show x }; k = g l * 100 + g 1 * 1000 + 112; g z = length (show [z]) - 2 - length (show z) + one z; one z = 0 } }"},
	} {
		wantBoth(t, "", c.want, "main = return ("+c.e+")\n"+c.declarations)
	}
}

const size = `
data Nothing2 a = Nothing2 a
data Two a b = Two a b
class Size a where
  size :: a -> Int
instance Size Int where
  size x = 1
instance Size Bool where
  size x = 1
instance Size a => Size [a] where
  size [] = 0
  size (x:xs) = size x + size xs
instance (Size b, Size a) => Size (a, b) where
  size (a, b) = size a + size b
instance Size a => Size (Maybe a) where
  size Nothing = 0
  size (Just x) = size x
instance Size (Nothing2 a) where
  size x = 1
instance (Size a, Size b) => Size (Two a b) where
  size (Two x y) = size (x, y)
`

// Names whose schemes have preds, at several types, within themselves and by one
// another.
func TestPreds(t *testing.T) {
	for _, c := range []struct {
		out          string // of show
		e            string
		declarations string
	}{
		{"([1,2],[True])", "(f [1, 2], f [True])", "f l = g l (show l) where { g x y = if length y > 0 then x else [] }"},
		{"(True,False)", "(f 3 3, f [True] [False])", "f x y = x == y"},
		{"Just [1,2]", "f [1, 2]", "f x = Just x"},
		{"[4,3,2,1]", "sort [3, 1, 4, 2]", "sort [] = []\nsort (x:xs) = put x (sort xs)\nput x [] = [x]\nput x (y:ys) = if y <= x then x : y : ys else y : put x ys"},
		{"[[2],[1,3],[1,2]]", "sort [[1, 2], [2], [1, 3]]", "sort [] = []\nsort (x:xs) = put x (sort xs)\nput x [] = [x]\nput x (y:ys) = if y <= x then x : y : ys else y : put x ys"},
		// groups of names that use each other
		{"(True,False)", "(f [3, 3, 3], g [True, False])", "f [] = True\nf [x] = True\nf (x:y:r) = x == y && g (y:r)\ng [] = True\ng [x] = True\ng (x:y:r) = y == x && f (y:r)"},
		{"[49,50]", "f 12 0", "f x n = if n > 3 then show x else g x (n + 1)\ng x n = if show x == [] then [] else f x (n + 1)"},
		// in a List of declarations, and below what takes dictionaries itself
		{"([1,1],[[49],[49]])", "f 1", "f x = (g x, g (show x)) where { g y = [y, if y == y then y else y] }"},
		{"[[49,50],[49,50],[120]]", "f 12 [120]", "f x s = let { h = show x; g y = if y == x then h else []; k z = g z : l z; l z = [g z, s] } in k x"},
		{"(True,(False,[49]))", "f 1 [2]", "f x y = (g x, (h y, show x)) where { g a = a == x; h b = show b == show x }"},
		{"[True,True,False]", "f 1 2", "f x y = let { eq a b = a == b && eq2 a b; eq2 a b = if a == b then True else eq a b } in [eq x x, eq [y] [y], eq (x, y) (y, x)]"},
		// outer preds that inner groups pass on
		{"[[49,50],[51]]", "f 12 3", "f x y = [g, h y] where { g = show x; h z = if x == x then show z else g }"},
		{"(([49],[50]),[[50],[49]])", "f 1 2", "f x y = (p, [b, a]) where { p = (show x, show y); (a, b) = p }"},
		// as values, and partly applied
		{"[[True],[False]]", "map f [True, False]", "f x = if x == x then [x] else []"},
		{"[True,False]", "map (f 1) [1, 2]", "f x y = x == y"},
		{"[[49],[50]]", "map show [1, 2]", ""},
		{"[True,False]", "map (== 1) [1, 2]", ""},
		{"[False,True]", "map ((==) 2) [1, 2]", ""},
		{"[[84,114,117,101]]", "apply show [True]", "apply = map"},
		{"(3,[7])", "(l r, m r)", "data R a = R { l :: a, m :: [a] }\nr = R 3 [7]"},
		{"[3,4]", "map l [R 3 [], R 4 []]", "data R a = R { l :: a, m :: [a] }"},
		// constants with preds
		{"(0,([True],False))", "(zero + 0, ([not (head zero)], zero && True))", "class Z a where { z :: a }\ninstance Z Int where { z = 0 }\ninstance Z Bool where { z = False }\ninstance Z a => Z [a] where { z = [z] }\nzero = z"},
		{"Just [5]", "f (Just 5)", "f m = do { x <- m; return [x] }"},
		{"[(1,3),(1,4),(2,3),(2,4)]", "both [1, 2] [3, 4]", "both m n = do { x <- m; y <- n; return (x, y) }"},
		{"Just (1,2)", "both (Just 1) (Just 2)", "both m n = do { x <- m; y <- n; return (x, y) }"},
		// preds of applied variables
		{"[True,False]", "[same (Just 1) (Just 1), same [1] [2]]", "same x y = wrap x == wrap y\nwrap x = fmap (\\a -> (a, a)) x"},
		{"([[49],[50]],Just [51])", "(strings [1, 2], strings (Just 3))", "strings x = fmap show x"},
	} {
		want := api.Outcome{Out: c.out, End: api.Done}
		wantBoth(t, "", want, "main = putBytes (show ("+c.e+")) >> return 0\n"+c.declarations)
	}
}

// A dictionary that several names need is made once, whatever is made of it.
func TestDictionariesAreShared(t *testing.T) {
	const f = "f x y = g x ++ g y ++ g [x] ++ g [x] ++ h [x] [[y]] where { g z = show [[z]]; h a b = show [(a, b)] ++ show [(a, b)] }\n"
	p := program(t, "main = return (length (f 1 True) + length (f [1] 2) + length (show [1]))\nu = show [1]\n"+f)
	made := map[string]int{}
	for _, b := range p.Binds {
		if b.Expr.Kind == api.App && strings.HasPrefix(b.Name, "m#") {
			made[say(b.Expr)]++
		}
	}
	if made["Prelude.Show#Prim.[](Prelude.Show#Prim.Int)"] != 1 {
		t.Error(made)
	}
	for e, count := range made {
		if count != 1 {
			t.Error(e, count)
		}
	}
	wantRun(t, "", done(5+8+2*7+2*16+7+5+2*9+2*15+3), "main = return (length (f 1 True) + length (f [1] 2) + length (show [1]))\n"+f)
}

// Classes and instances of several modules.
func TestModules(t *testing.T) {
	a := "module A (C, T, f, g) where\nclass C a where { c :: a -> Int }\ndata T = T { x :: Int } | U\ninstance C T where { c (T x) = x; c U = 0 }\nf x = c x + y where y = 1\ng = T 7\nmain = 5"
	b := "module B where\nimport A\ninstance C Int where { c x = x * 2 }\ninstance C a => C [a] where { c [] = 0; c (x:xs) = c x + c xs }\nh l = f l * 100 + z where z = f g\nT { x = w } = g"
	for _, texts := range [][]string{{a, b}, {b, a}} {
		wantBoth(t, "", done(708), append(texts, "import A\nimport B\nmain = return (h [1, 2])")...)
		wantBoth(t, "", done(7), append(texts, "import B\nmain = return w")...)
		wantBoth(t, "", failed, append(texts, "import A (T)\nmain = return (x U)\nf = 1")...)
	}
}

// An EDo uses whatever the Prelude has for it: a function that takes dictionaries,
// also within itself, or a DField.
func TestOwnPrelude(t *testing.T) {
	const taking = `module Prelude where
import Prim
class S a where { s :: a -> Int }
instance S Int where { s x = x }
instance S a => S [a] where { s [] = 0; s (x:xs) = primAdd (s x) (s xs) }
m >>= k = case m of { [] -> []; (x:xs) | primEq (s x) 2 -> do { y <- xs; k y }; (x:xs) -> app (k x) (xs >>= k) }
app [] y = y
app (x:xs) y = x : app xs y
`
	const field = "module Prelude where\ndata M = M { (>>=) :: (Int -> Int) -> Int }\n"
	for _, c := range []struct {
		prelude, text string
		want          api.Outcome
	}{
		{taking, "import Prim\nmain = primReturn (s (do { x <- [1, 2, 3]; [x, x] }))", done(8)},
		{taking, "import Prim\nmain = primReturn (s (do { [x] <- [[1], [1, 1, 1]]; [[x], [x, x]] }))", failed},
		{field, "import Prim\nmain = primReturn (do { x <- M (\\k -> primAdd (k 1) (k 2)); primMul x 10 })", done(30)},
		{field, "import Prim\nmain = primReturn (do { M (\\k -> k (k 7)); 2 })", done(2)},
	} {
		for i, text := range []string{c.text, c.text + heavy} {
			p, d := desugar.Core(tree(t, c.prelude), tree(t, whole(text)))
			if d != (api.Diag{}) || takesTypes(p) != (i == 1) {
				t.Errorf("%q: %+v (names take types: %v)", c.text, d, takesTypes(p))
			} else if got := run(p, ""); got != c.want {
				t.Errorf("%q: got %+v, want %+v (names take types: %v)", c.text, got, c.want, i == 1)
			}
		}
	}
}
