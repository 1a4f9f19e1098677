package infer_test

import (
	"testing"

	"teasel/api"
)

// A DFun of a DInst has the type of its DMethod, for arbitrary types in place of
// all variables.
func TestMethods(t *testing.T) {
	const data = "data T a = T a | N\ndata P f a = P (f a)\n"
	const class = "class C k where { c :: k -> b -> b; d :: k; e :: b -> k -> [b] }\nclass F f where { m :: f a -> (a -> b) -> f b }\n"
	right := func(text string) {
		t.Helper()
		wantTypes(t, "f : Int", data+class+text+"\nf = 1")
	}
	wrong := func(number api.Errno, text string) {
		t.Helper()
		wantWrong(t, number, data+class+text+"\nf = 1")
	}
	right("instance C (T a) where { c x y = y; d = N; e x y = [x, x] }")
	right("instance C (T a) where")
	right("instance C Int where { c 1 y = y; c x y = c (x - 1) y; d = 7; e x y = e x [y] }\ninstance C [a] where { c = const id; d = [] }")
	right("instance C (a -> b) where { c f x = x; d = error; e x f = [x] }")
	right("instance F T where { m (T x) f = T (f x); m N f = N }\ninstance F [] where { m = flip map }")
	right("instance F IO where { m x f = x >>= \\y -> return (f y) }")
	// Too special, for a variable of the class, of the method and of the type.
	for _, text := range []string{
		"instance C (T a) where { §c x y = x }",
		"instance C (T a) where { §c x 1 = 1 }",
		"instance C (T a) where { §c (T x) y = x }",
		"instance C (T a) where { §c (T 1) y = y }",
		"instance C (T a) where { §d = T 1 }",
		"instance C (T a) where { §d = 1 }",
		"instance C (T b) where { §c (T x) y = x }",
		"instance C (T a) where { §e x (T y) = [x, y] }",
		"instance C (T a) where { c x y = y; §e x y = [True] }",
		"instance C Int where { §d = True }",
		"instance C (a -> b) where { §d x = x }",
		"instance C (a, b) where { §d = (error, 1) }",
		"instance C (a, b) where { §e x (y, z) = [y, z] }",
		"instance C (T a) where { §c x = x }",
		"instance C (T a) where { §d x = N }",
		"instance F T where { §m (T x) f = T x }",
		"instance F T where { §m (T x) f = [f x] }",
		"instance F Maybe where { §m (Just x) f = Just (f (f x)) }",
	} {
		wrong(api.ErrType, text)
	}
}

// Of the preds that it requires, those of arbitrary types are among its DPreds.
func TestMethodPreds(t *testing.T) {
	const data = "data T a = T a\ndata P f a = P (f a)\nclass K k where { k :: k -> b -> b -> Bool; u :: k -> b }\nclass C a where { c :: a }\n"
	right := func(text string) {
		t.Helper()
		wantTypes(t, "f : Int", data+text+"\nf = 1")
	}
	wrong := func(number api.Errno, text string) {
		t.Helper()
		wantWrong(t, number, data+text+"\nf = 1")
	}
	right("instance Eq a => Eq (T a) where { T x == T y = x == y }")
	right("instance Eq a => Eq (T a) where { T x == T y = [x] == [y] && Just (x, 1) == Nothing }")
	right("instance (Show b, Eq b) => Show (T b) where { show (T x) = if x == x then show [x] else [] }")
	right("instance (Eq a, Show b) => K (a, b) where { k (x, y) z w = x == x && show y == [] }")
	right("instance Show a => Show (T a) where { show (T x) = let { y = show x; g z = show (z, x) } in y ++ g 1 ++ g y }")
	right("instance Monad f => K (P f a) where { k (P x) y z = const True (x >>= \\w -> return (w, y)) }")
	// Its own instance, with what that needs.
	right("instance Eq a => Eq (T a) where { x == T y = x == x && [T y] == [] }")
	for _, text := range []string{
		"instance Eq (T a) where { §T x == T y = x == y }",
		"instance Eq a => Show (T a) where { §show (T x) = show x }",
		"instance Eq a => Show (T a) where { §show x = if x == x then [] else show x ++ show (case x of { T y -> y }) }",
		"instance Eq a => K (a, b) where { §k (x, y) z w = y == y }",
		"instance Eq a => K (T a) where { §k (T x) z w = z == w }",
		"instance Eq a => K (T a) where { §k (T x) z w = [z] == [] }",
		"instance Eq a => Eq (T a) where { §T x == T y = show x == [] }",
		"instance Eq a => K (a -> b) where { §k x y z = let g w = x == w in True }",
		// A local function that is not used requires it too.
		"instance K (T a) where { §k (T x) y z = let g w = (w, x == x) in True }",
		// An arbitrary type that is applied is given by no DPred.
		"instance Monad f => K (P f a) where { §k (P x) y z = x == x }",
		"instance Monad f => K (P f a) where { §k (P x) y z = const True (\\w -> x == return w) }",
		"instance Monad f => K (P f a) where { §k (P x) y z = let g w = (x >>= \\v -> return w) == return w in True }",
		// What has no instance at all.
		"instance Eq a => Eq (T a) where { §T x == T y = not == not }",
	} {
		wrong(api.ErrInstance, text)
	}
	// Variables are open, and none is its own.
	right("instance K Int where { k x y z = show [] == show error }")
	right("instance Eq a => K (T a) where { k (T x) y z = let { g w = w == w; (h, i) = (\\v -> v == v, 1) } in g x && h i }")
	wrong(api.ErrAmbiguous, "instance K Int where { §k x y z = show c == [] }")
	wrong(api.ErrAmbiguous, "instance K Int where { §k x y z = return 1 == return 2 }")
	wrong(api.ErrAmbiguous, "instance K Int where { k x y z = True; §u x = seq (show c) error }")
	// The first that applies, in one DFun and in several.
	wrong(api.ErrType, "instance K Int where { §k x y z = show c == [] && not == not && 1 }")
	wrong(api.ErrInstance, "instance K Int where { §k x y z = show c == [] && not == not }")
	wrong(api.ErrInstance, "instance K Int where { §k x y z = show c == [] && y == y }")
	wrong(api.ErrAmbiguous, "instance K Int where { §u x = seq (show c) error; k x y z = 1 }")
	wrong(api.ErrType, "instance K Int where { §k x y z = 1; u x = seq (show c) error }")
	wrong(api.ErrInstance, "instance Eq (T a) where { §T x == T y = x == y }\ninstance K Int where { k x y z = 1 }")
	wrong(api.ErrType, "instance K Int where { §k x y z = 1 }\ninstance Eq (T a) where { T x == T y = x == y }")
}

// Groups come ahead of all DInsts of a module, and DInsts of a module ahead of
// the modules after it.
func TestErrorPlaces(t *testing.T) {
	const inst = "instance Eq (a -> b) where { f == g = f }\n"
	wantWrong(t, api.ErrType, inst+"§f = 1 1")
	wantWrong(t, api.ErrAmbiguous, inst+"class C a where { c :: a }\n§f = show c")
	wantWrong(t, api.ErrType, "f = 1\ninstance Eq (a -> b) where { §f == g = f }\ng = 2")
	wantWrong(t, api.ErrType, "f = 1\ninstance Eq (a -> b) where\n  f == g = True\ninstance Show (a -> b) where\n  §show f = f")
	// The first module, in dependency order.
	wantWrong(t, api.ErrType, "module B where\ninstance Eq (a -> b) where { §f == g = f }", "module A where\nimport Prelude\nimport B\nf = 1 1")
	wantWrong(t, api.ErrType, "module B where\nf = 1 1", "module A where\n§f = 1 1")
	wantWrong(t, api.ErrInstance, "module B where\nf = 1 1", "module A where\ng = 1\n§f = show id\nh = True + 1")
	wantWrong(t, api.ErrAmbiguous, "module C where\nimport A\nimport Prelude\n§f = show c", "module A where\nclass C a where { c :: a }", "module D where\ng = 1 1")
	// At a declaration that is a DPat, and at the first one of a group.
	wantWrong(t, api.ErrType, "f = 1\n§(g, h) = 1")
	wantWrong(t, api.ErrType, "f = 1\n§[1] = True")
	wantWrong(t, api.ErrType, "§x `f` y = g x y\ng x y = f x + 1")
	wantWrong(t, api.ErrType, "k = 1\n§g x = f x 1\nl = 2\nf x y = g True + g 1\nm = 1 1")
	wantWrong(t, api.ErrType, "k = 1\n§(g, h) = (1, f h)\nl = 2\nf x = g h")
	// What is further in is at the declaration at the top.
	wantWrong(t, api.ErrType, "f = 1\n§g x = y\n  where\n    y = z\n    z = 1 1")
	wantWrong(t, api.ErrInstance, "§g = let y = show not in 1")
	// Errors of earlier layers come first.
	wantWrong(t, api.ErrOverlap, "f = 1 1\ninstance Show (a -> b) where\n§instance Show (a -> c) where")
	wantWrong(t, api.ErrKind, "f = 1 1\n§data T f = T (f f)")
	wantWrong(t, api.ErrUnknown, "f = 1 1\ng = §x")
	wantWrong(t, api.ErrOverlap, "module A where\nf = 1 1", "module B where\ninstance Show () where\n§instance Show () where")
}

// Of the errors of one group, the first that applies counts, wherever each is.
func TestErrorOrder(t *testing.T) {
	const class = "class C a where { c :: a; d :: a -> Int }\ninstance C Bool where { c = True }\n"
	wantWrong(t, api.ErrType, class+"§f = (show c, show id, 1 1)")
	wantWrong(t, api.ErrInstance, class+"§f = (show c, show id)")
	wantWrong(t, api.ErrAmbiguous, class+"§f = (show c, 1)")
	wantWrong(t, api.ErrType, class+"§f = let { x = show c } in let { y = show id } in let { z = 1 1 } in 2")
	wantWrong(t, api.ErrType, class+"§f = let { z = 1 1 } in let { y = show id } in let { x = show c } in 2")
	wantWrong(t, api.ErrInstance, class+"§f = let { x = show c } in let { y = show id } in 2")
	wantWrong(t, api.ErrInstance, class+"§f = let { y = show id } in let { x = show c } in 2")
	wantWrong(t, api.ErrType, class+"§f x = seq (show c) (g x)\ng x = seq (show id) (h x)\nh x = f (not x) + 1 1")
	wantWrong(t, api.ErrInstance, class+"§f x = seq (show c) (g x)\ng x = seq (show id) (f x)")
	// What an ambiguous variable would be counts where its name is used.
	wantWrong(t, api.ErrInstance, class+"§f = let { (g, h) = (d, 1) } in g []")
	wantWrong(t, api.ErrAmbiguous, class+"§f = let { (g, h) = (d, 1) } in g True")
	wantWrong(t, api.ErrAmbiguous, class+"§f = let { (g, h) = (d, 1) } in g")
	wantWrong(t, api.ErrAmbiguous, class+"§f = let { (g, h) = (\\x -> show [x] == show c && d x == 1, 1) } in (g True, g True)")
	wantWrong(t, api.ErrInstance, class+"§f = let { (g, h) = (\\x -> show [x] == show c && d x == 1, 1) } in (g True, g 1)")
}
