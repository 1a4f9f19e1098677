package infer_test

import (
	"strings"
	"testing"

	"teasel/api"
)

// Groups: within one its names have single types, and all else is used with a
// type of its own each time.
func TestGroups(t *testing.T) {
	// A declaration that uses one further below.
	wantTypes(t, "f : (Int, Bool)\ni : a -> a", "f = (i 1, i True)\ni x = x")
	// Two that use each other, and others that use them.
	wantTypes(t, "f : a -> b -> Int\ng : a -> b -> Int", "f x y = g x y\ng x y = f x y + 1")
	wantTypes(t, "f : a -> a -> Int\ng : a -> a -> Int", "f x y = g x y\ng x y = f y x + 1")
	wantTypes(t, "f : Int -> a\ng : Int -> a\nh : (a, b)", "f x = g x\ng x = f 1\nh = (f 1, g 2)")
	wantTypes(t, "f : a -> b -> b\ng : a -> b -> b\nh : (Int, Bool)", "f x y = g x y\ng x y = snd (f x y, y)\nh = (f 1 2, g [] True)")
	wantWrong(t, api.ErrType, "§f x = g x x\ng x y = f [x] + 1")
	wantWrong(t, api.ErrType, "§f x = (g 1, g True)\ng y = const y (f y)")
	wantWrong(t, api.ErrType, "f x = g x\ng x = f 1\n§h = f True")
	// A chain of uses that comes back to where it began.
	wantTypes(t, "f : a -> b\ng : a -> b\nh : a -> b\nk : a -> b", "f x = g x\ng x = h x\nh x = k x\nk x = f x")
	wantTypes(t, "f : [a] -> b\ng : [a] -> b\nh : [a] -> b\nk : a -> [a]", "f x = g x\ng x = h (k (head x))\nh x = f (tail x)\nk x = [x]")
	wantWrong(t, api.ErrType, "§f x = g [x]\ng x = h x\nh x = k x\nk x = f x")
	// A name has a single type within itself.
	wantTypes(t, "f : a -> b", "f x = f x")
	wantTypes(t, "f : Int -> a -> Int\ng : (Int, Int)", "f 0 x = 0\nf n x = f (n - 1) x\ng = (f 1 True, f 2 ())")
	wantWrong(t, api.ErrType, "§f x = f [x]")
	wantWrong(t, api.ErrType, "§f 0 x = 0\nf n x = f 0 1 + f 0 True")
	// Uses within what is further in count too.
	wantTypes(t, "f : a -> Int\ng : a -> b", "f x = let y = g x in 1\ng x = g x")
	wantTypes(t, "f : a -> Int\ng : a -> Int", "f x = let y = g x in 1\ng x = f x")
	wantWrong(t, api.ErrType, "§f x = let y = g [x] in 1\ng x = f x")
	wantWrong(t, api.ErrType, "§f x = 1 where y | True = case 1 of { 1 -> do { z <- [2]; [g [x]] } }\ng x = f x")
	wantWrong(t, api.ErrType, "§f x = (`g` [x])\ng x y = f y 1")
	// A local name that is spelled alike is another one.
	wantTypes(t, "f : a -> [a]\ng : a -> [a]", "f x = let g y = [y] in g x\ng x = f x")
	wantTypes(t, "f : (a -> b) -> a -> b\ng : Bool -> a", "f g x = g x\ng x = f g (f not True)")
	// What a DInst uses makes no groups.
	wantTypes(t, "f : T a -> Bool\ng : Bool", "data T a = T\ninstance Eq (T a) where { a == b = f a }\nf x = x == T\ng = f T")
}

// Groups of local Lists.
func TestLocalGroups(t *testing.T) {
	wantType(t, "(Int, Bool)", "f = let { g = (i 1, i True); i x = x } in g")
	wantType(t, "(Int, Bool)", "f = g where { g = (i 1, i True); i x = x }")
	wantType(t, "Monad a => a (Int, Bool)", "f = do { let { g = (i 1, i True); i x = x }; return g }")
	wantType(t, "Int -> (Int, Bool)", "f x = case x of { 1 | i True -> g where { g = (i x, i True); i x = x } }")
	wantType(t, "a -> b -> Int", "f = let { g x y = h x y; h x y = g x y + 1 } in g")
	wantType(t, "(Int, Int)", "f = let { g x y = h x y; h x y = g y x + 1 } in (g 1 2, h [] [()])")
	wantWrong(t, api.ErrType, "§f = let { g x y = h x y; h x y = g y x + 1 } in (g 1 2, h [] True)")
	wantWrong(t, api.ErrType, "§f = let { g x = (i 1, i True); i x = snd (g x, x) } in g")
	wantWrong(t, api.ErrType, "§f = g where { g x = (i 1, i True); i x = snd (g x, x) }")
	// What is outer has a single type.
	wantWrong(t, api.ErrType, "§f x = let { i = x } in (i 1, i True)")
	wantWrong(t, api.ErrType, "§f x = let { g y = [x, y] } in (g 1, g True)")
	wantWrong(t, api.ErrType, "§f x = (g 1, g True) where { g y = f y }")
	// So has all that turns out to be a part of it, beside what is outer anyway.
	for _, whole := range []string{"y", "[y]", "(y, z)", "(z, y)", "(y, z, z)", "(z, y, z)", "(z, z, y)", "((z, y), z)", "(z, (y, z))", "(\\u -> const y [u, z])", "(\\u -> const z [u, y])"} {
		wantWrong(t, api.ErrType, "§f x z = let g y = const y [x, "+whole+"] in (g 1, g True)")
		wantWrong(t, api.ErrType, "§f x z = let g y = const y ["+whole+", x] in (g 1, g True)")
		wantWrong(t, api.ErrType, "§f x z = let g y = let h = const (x "+whole+") in const y (h 1) in (g 1, g True)")
	}
	wantType(t, "(a -> b) -> (a -> b, a -> b)", "f g = let h y = g y in (h, h)")
	wantType(t, "a -> (Maybe [a], (Int, Bool))", "f x = let { g y = const y [x]; (h, k) = (Just [x], g) } in (h, (k 1, k True))")
	wantType(t, "Int -> ([Int], [Int])", "f x = let { g y = [x, y] } in (g 1, g x)")
	// Lists within others.
	wantType(t, "a -> b -> Int -> (a, [a], b)", "f x y = let g z = let h u = (x, [x], y) in h z in \\z -> snd (g True, g (z + 1))")
	wantType(t, "a -> [a] -> ((a, Int), (a, Bool))", "f x = let g y = (x, y) in \\z -> let h = const (g 1) (x : z) in (h, g True)")
	wantType(t, "[a] -> ([a], Int)", "f [] = ([], 0)\nf (x : y) = let (z, n) = f y in (x : z, n + 1)")
	wantType(t, "(a -> b) -> a -> b", "f g x = y where { y = z; z = let u = g v in u; v = let w = x in w }")
	wantWrong(t, api.ErrType, "§f x = let g y = let h z = (x, y, z) in (h 1, h y, x y) in g x")
}

// Groups in which there are DPats.
func TestPatternGroups(t *testing.T) {
	wantTypes(t, "x : a -> a\ny : Int", "(x, y) = (\\z -> z, 1)")
	wantTypes(t, "x : a\ny : [a]\nf : Int -> a", "(x, y) = (f 1, [])\nf z = x")
	wantWrong(t, api.ErrType, "§(x, y) = (f 1, f True)\nf z = const 1 (x, z)")
	wantTypes(t, "x : [Int] -> Int\ny : Int", "(x, y) = (\\l -> if y == 1 then 0 else x (tail l), x [2])")
	wantType(t, "(Int, Bool)", "f = let { (i, n) = (\\x -> x, 1) } in (i n, i True)")
	wantWrong(t, api.ErrType, "§f = let { (i, n) = (\\x -> x, i 1); m = i True } in 1")
	wantWrong(t, api.ErrType, "§f (i, n) = (i n, i True, n + 1)")
}

// Of several groups that may be next, the one whose first declaration is first
// in the List is processed: it tells which error comes first.
func TestGroupOrder(t *testing.T) {
	const class = "class C a where { c :: a }\n"
	const wrong, lacking, ambiguous = " = 1 1\n", " = show id\n", " = show c\n"
	wantWrong(t, api.ErrType, class+"§a"+wrong+"b"+lacking)
	wantWrong(t, api.ErrInstance, class+"§a"+lacking+"b"+wrong)
	wantWrong(t, api.ErrAmbiguous, class+"§a"+ambiguous+"b"+wrong)
	// a waits for d, b for nothing: b, d, a.
	wantWrong(t, api.ErrInstance, class+"a = const (1 1) d\n§b"+lacking+"d"+ambiguous)
	wantWrong(t, api.ErrAmbiguous, class+"a = const (1 1) d\nb = 1\n§d"+ambiguous)
	// a waits for d, and that for e: b, e, d, a, g. All that are left are wrong.
	for _, texts := range [][]string{
		{"a = d + 1 1", "§b = 1 1", "d = e + 1 1", "e = 1 1", "g = 1 1"},
		{"a = d + 1 1", "b = 1", "d = e + 1 1", "§e = 1 1", "g = 1 1"},
		{"a = d + 1 1", "b = 1", "§d = e + 1 1", "e = 1", "g = 1 1"},
		{"§a = d + 1 1", "b = 1", "d = e + 1", "e = 1", "g = 1 1"},
		{"a = d + 1", "b = 1", "d = e + 1", "e = 1", "§g = 1 1"},
		// a and g use each other, and d, which waits for e: e, d, h, a with g.
		{"a x = d + g x + 1 1", "§e = 1 1", "d = e + 1 1", "h = 1 1", "g x = a x"},
		{"a x = d + g x + 1 1", "e = 1", "§d = e + 1 1", "h = 1 1", "g x = a x"},
		{"§a x = d + g x", "e = 1", "d = e + 1", "h = 1 1", "g x = a x + 1 1"},
		{"a x = d + g x", "e = 1", "d = e + 1", "§h = 1 1", "g x = a x"},
		// What comes later in the List, but is first of its group: b, then a, d.
		{"d x = a x + 1 1", "§b = 1 1", "a = b + 1 1"},
		{"(x, y) = (z, 1 1)", "§z = 1 1", "(u, v) = (x, y)"},
		{"§(x, y) = (u, 1)", "z = 1 1", "(u, v) = (x, not y)"},
	} {
		wantWrong(t, api.ErrType, strings.Join(texts, "\n"))
	}
}
