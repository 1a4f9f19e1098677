package infer_test

import (
	"testing"

	"teasel/api"
)

// Which preds a scheme has: those that are required, reduced.
func TestRequired(t *testing.T) {
	for _, x := range []struct{ want, text string }{
		{"Eq a => a -> a -> Bool", "f x y = x == y"},
		{"Eq a => a -> Bool", "f x = x == x && [x] == [x] && Just (x, 1) == Nothing"},
		{"(Eq a, Eq b) => a -> b -> Bool", "f x y = (x, [y]) == (x, [])"},
		{"Eq a => a -> Bool", "f x = [(x, ())] == []"},
		{"Int -> Bool", "f x = [(x + 1, ())] == []"},
		{"(Eq a, Show a) => a -> [Int]", "f x = if x == x then show x else []"},
		{"(Monad b, Monad c) => a -> b (c a)", "f x = return (return x)"},
		{"Monad a => a b -> a c -> a c", "f m k = m >> k"},
		{"(Functor a, Monad a) => a b -> (b -> a c) -> a [c]", "f m g = m >>= \\x -> fmap (: []) (g x)"},
		// A variable that is applied is the head of the type of a pred.
		{"(Eq (a Int), Monad a) => a Int -> Bool", "f m = m == return 1"},
		{"(Eq (a (b, [c])), Monad a) => a (b, [c]) -> b -> Bool", "f m x = return (x, []) == m"},
		{"Eq (a b c) => T a b c -> Bool", "data T f a b = T (f a b)\nf (T x) = x == x"},
		{"Eq (a (b -> c)) => T a (b -> c) -> Bool", "data T f a = T (f a) a\nf (T x g) = x == x && seq (\\y -> g y) True"},
		// Preds of the same class are different if the heads of their types are, or the arguments.
		{"(Eq (a Int), Eq (b Int), Monad a, Monad b) => a Int -> b Int -> (Bool, Bool)", "f x y = (x == return 1, y == return 1)"},
		{"(Eq (a b), Eq (c b), Eq (d b)) => T a b -> T c b -> T d b -> Bool", "data T f a = T (f a) a\nf (T x a) (T y b) (T z c) = x == x && y == y && z == z && seq [a, b, c] True"},
		{"(Eq (a b), Eq (c b), Eq b, Monad a, Monad c) => a b -> c b -> b -> (Bool, Bool)", "f x y z = (x == return z, y == return z && z == z)"},
		{"(Eq (a b), Eq (a d), Eq (c b), Monad a, Monad c) => a b -> c b -> a d -> b -> d -> [Bool]", "f x y z u v = [x == return u, (x >> z) == return v, y == return u]"},
		{"(Eq (a b c), Eq (d b c)) => T a b c -> T d b c -> Bool", "data T f a b = T (f a b) a b\nf (T x a b) (T y c d) = x == x && y == y && seq [(a, b), (c, d)] True"},
		// Each name of a group has all that the group requires.
		{"(Eq a, Show a) => a -> a -> [Int]", "f x y = if x == y then [] else g x y\ng x y = show x ++ f y x"},
		{"Eq a => a -> Bool", "f x = g x\ng x = f x == True || h x\nh x = g x && x == x"},
		// What a name requires is required at each of its uses, for other types.
		{"(Eq a, Eq b) => a -> b -> Bool", "f x y = g x && g [y]\ng x = x == x"},
		{"Bool", "f = g 1 && g True && g [()]\ng x = x == x"},
		// A use in one's own group requires nothing itself.
		{"Show a => a -> [Int]", "f x = if True then show x else f x"},
	} {
		wantType(t, x.want, x.text)
	}
	// An argument of a pattern, or of a field, may be of any type.
	wantType(t, "Show a => T a -> [Int]", "data T a = T { l :: a }\nf r = show (l r)")
	wantType(t, "Show a => T a -> [Int]", "data T a = T { l :: a }\nf T { l = x } = show [x]")
}

// Preds of outer variables are passed on to the surrounding group.
func TestOuter(t *testing.T) {
	for _, x := range []struct{ want, text string }{
		{"Eq a => a -> Bool", "f x = let y = x == x in y"},
		{"Eq a => a -> Bool", "f x = let y = [x] == [x] in True"},
		{"Show a => a -> [Int]", "f x = y where { y = z; z = let u = show x in u }"},
		{"(Eq a, Show b) => a -> b -> [Int]", "f x y = let g z = if x == x then show y else z in g []"},
		// They are reduced when it turns out what their variables are.
		{"Int -> Bool", "f x = let y = x == x in y && x == 1"},
		{"Eq a => [a] -> Bool", "f x = let y = x == x in y && x == []"},
		{"Bool", "f = (\\x -> let y = x == x in y) 1"},
		// A local function has only what is not outer: it is used at two types.
		{"(Eq a, Show b) => a -> b -> ([Int], [Int])", "f x y = let g z = if x == x then show z else [] in (g y, g 1)"},
		{"Show a => a -> ([Int], [Int])", "f x = let g y = show (x, y) in (g 1, g [True])"},
		// Passed on over several groups, to where a variable is no longer outer.
		{"Eq a => a -> (Bool, Bool)", "f x = let g y = (let h z = y == y && x == x in h 1) in (g 1, g True)"},
		{"a -> Bool", "f x = let g y = (let h z = y == y in h x) in g 1 && g True"},
		// With patterns.
		{"Eq a => a -> (Bool, [a])", "f x = let (y, z) = (x == x, [x]) in (y, z)"},
		{"Eq a => a -> Bool", "f x = do { let { y = x == x }; y }"},
		{"(Monad a, Show b) => a b -> a [Int]", "f m = do { x <- m; let { y = show x }; return y }"},
		// A pred with outer variables and others is in the scheme.
		{"(Eq (a Bool), Eq (a Int), Monad a) => a b -> Bool", "f m = let g x = (m >>= \\y -> return x) == return x in g 1 && g True"},
	} {
		wantType(t, x.want, x.text)
	}
	wantWrong(t, api.ErrInstance, "§f x = (let y = x == x in y) && x not")
	wantWrong(t, api.ErrInstance, "§f = (\\x -> let y = x == x in y) not")
	wantWrong(t, api.ErrInstance, "§f = (\\x -> let g z = x == x in True) not")
}

// What turns out later about outer variables counts as well, wherever it does.
func TestOuterLater(t *testing.T) {
	class := "class C a where { c :: a -> Int; d :: a }\ninstance C (Maybe a) where { c x = 1 }\ninstance Eq a => C [a] where { c x = 1 }\n"
	// C (m b) is of what is outer and of what is the local function's own.
	g := "let g x = c (m >>= \\y -> return x) in "
	wantType(t, "Maybe a -> Int", class+"f m = "+g+"case m of { Just z -> g 1 }")
	wantType(t, "Maybe a -> Int", class+"f m = case m of { Just z -> "+g+"g not }")
	wantType(t, "[a] -> Int", class+"f m = case m of { [] -> "+g+"g 1 }")
	wantType(t, "Eq b => [a] -> b -> Int", class+"f m u = "+g+"case m of { [] -> g u }")
	wantWrong(t, api.ErrInstance, class+"§f m = case m of { [] -> "+g+"g not }")
	wantWrong(t, api.ErrInstance, class+"§f m = "+g+"case m of { [] -> g not }")
	// It has no instance, whether it is used or not, and wherever that is told.
	wantWrong(t, api.ErrInstance, class+"§f m = "+g+"const 1 (putByte 1 >> m)")
	wantWrong(t, api.ErrInstance, class+"§f m = const (putByte 1 >> m) ("+g+"1)")
	// An open variable in it is Int or ambiguous by what is outer.
	o := "let { (g, h) = (\\x -> c (m >>= \\y -> return x), 1) } in "
	wantType(t, "[a] -> Int", class+"f m = "+o+"case m of { [] -> g 1 }")
	wantType(t, "[a] -> Int", class+"f m = case m of { [] -> "+o+"g 1 }")
	wantWrong(t, api.ErrType, class+"§f m = "+o+"case m of { [] -> g True }")
	wantWrong(t, api.ErrType, class+"§f m = case m of { [] -> "+o+"g True }")
	wantType(t, "Maybe a -> Int", class+"f m = "+o+"case m of { Just u -> g 1 + g True }")
	wantWrong(t, api.ErrAmbiguous, class+"§f m = "+o+"g 1")
}

// Own variables are in the types of all names of a group; the others that preds
// have are open, and Int is put for them.
func TestOpen(t *testing.T) {
	class := "class C a where { c :: a }\nclass D a where { d :: a -> Bool }\ninstance D Int where { d x = True }\ninstance D Bool where { d x = x }\ninstance C (Maybe a) where { c = Nothing }\n"
	for _, x := range []struct{ want, text string }{
		{"[Int]", "f = show []"},
		{"Bool", "f = error == error"},
		{"[Int]", "f = show [[], [error]]"},
		{"Bool", "f = d error && error == [Just error]"},
		// One that is in the type of one name alone, and one that is in all.
		{"Int -> a -> a", "f x y = if x == x then g y else y\ng y = f error y"},
		{"Eq a => Int -> a -> a", "f x y = if x == x && y == y then g y else y\ng y = f error y"},
		{"Int -> Bool", "f x = x == x && g\ng = f error"},
		// In a group with a DPat none is its own.
		{"Int -> Bool", "(f, g) = (\\x -> x == x, 1)"},
		{"a -> Int", "(f, g) = (\\x -> 1, \\x -> x == x)"},
		{"Int -> Bool", "f x = x == x && g\n[g] = [f error]"},
		// Locally.
		{"(Int -> Bool, Bool)", "f = let { (g, h) = (\\x -> x == x, 1) } in (g, g h)"},
		{"(Bool, Bool)", "f = let { g x = x == x } in (g 1, g True)"},
		{"(Int, [Int] -> Int)", "f = let { (g, h) = (sum, 1) } in (h, g)"},
		{"a -> ([Int], a)", "f x = let { y = show [] } in (y, x)"},
		{"Maybe Int -> Bool", "f = let { (g, h) = (\\x -> x == Just h, error) } in g"},
		{"Eq a => a -> a -> (Bool, [Int])", "f x y = let { (g, h) = (\\z -> z == x, show error) } in (g y, h)"},
		// What is put for it counts wherever the name is used.
		{"(Bool -> Int -> Bool, Int)", "f = let { (g, _) = (\\x -> x == x, 1) } in let { h u x = u && g x } in (h, 1)"},
		{"[Int] -> [Bool]", "f = let { (g, _) = (\\x -> x == x, 1) } in let { h x = g x; i x = map h x } in i"},
	} {
		if x.text != "" {
			wantType(t, x.want, class+x.text)
		}
	}
	wantTypes(t, "f : Int -> a -> a\ng : a -> a", "f x y = if x == x then g y else y\ng y = f error y")
	for _, text := range []string{
		// Not of a class of Int.
		"§f = show c",
		"§f = let { (g, h) = (c, 1) } in h",
		"§f x = let { y = show c } in x",
		// It stands in an application.
		"§f = return 1 == return 1",
		"§f x = const True (x >>= \\y -> return (return error == return error))",
		"§f = const 1 (error >>= \\x -> return x)",
		"§f = fmap id error == error",
		// It is in another pred that no Int satisfies.
		"§f = (\\x -> d x && const True (c == x)) error",
		"§f = (\\x -> d (head x) && const (x == x) [c, head x]) error",
		// In one name's type alone.
		"§f x y = if x == const x (show c) then g y else y\ng y = f error y",
		"f = 1\n§(g, h) = (c, 1)",
		"§g x = x == const x h && True\n(h, k) = (g c, 1)",
	} {
		wantWrong(t, api.ErrAmbiguous, class+text)
	}
	// What is required at a use is looked at beside what is ambiguous.
	pair := "data P a b = P a b\nclass K k where { mk :: k a -> k b }\ninstance K (P a) where { mk x = error }\ninstance (Eq a, Eq b) => Eq (P a b) where { x == y = True }\n"
	wantWrong(t, api.ErrAmbiguous, pair+"§f = let g m = mk m == mk m in g (P 1 1)")
	wantWrong(t, api.ErrInstance, pair+"§f = let g m = mk m == mk m in g (P id 1)")
	wantWrong(t, api.ErrInstance, pair+"§f = let g m = P (mk m) [id] == P (mk m) [id] in g (P 1 1)")
	wantWrong(t, api.ErrInstance, pair+"§f = let g m = P [id] (mk m) == P [id] (mk m) in g (P 1 1)")
	// With Int put for it, a use does not fit.
	wantWrong(t, api.ErrType, "§f = let { (g, h) = (\\x -> x == x, 1) } in (g True, h)")
	wantWrong(t, api.ErrType, "§f = let { (g, h) = (\\x -> x == x, 1) } in let { k x = g x } in let { l x = k x } in (l True, h)")
	wantWrong(t, api.ErrType, "(g, h) = (\\x -> x == x, 1)\n§f = g True")
	wantWrong(t, api.ErrType, "§f x = let { (g, h) = (\\y -> y == y, 1) } in (let { k = g x } in k, not x)")
	wantType(t, "(Bool, Bool)", "f = let { (g, h) = (\\x -> True, 1) } in (g True, g 1)")
}
