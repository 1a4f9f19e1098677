package infer_test

import (
	"testing"

	"teasel/api"
	"teasel/infer"
)

// The chapter's examples.
func TestExamples(t *testing.T) {
	wantTypes(t, "f : a -> b -> a", "f x y = x")
	wantTypes(t, "g : Show a => [a] -> [Int]", "g l = show (head l)")
	wantTypes(t, "h : (Eq b, Monad a) => a b -> b -> a Bool", `h m k = m >>= \x -> return (x == k)`)
	wantTypes(t, "p : a -> a\nq : Int", "(p, q) = (id, 1 + 1)")
	wantWrong(t, api.ErrType, "§f x = x x")
	wantWrong(t, api.ErrInstance, "§f = show id")
	wantWrong(t, api.ErrAmbiguous, "class C a where { c :: a }\n§f = show c")
}

// Types without variables, which turn out to be the same as others first.
func TestConstructorAgain(t *testing.T) {
	const data = "data T = T Int Int | R { a :: Int, b :: Int }\n"
	for _, x := range []string{
		"f = case T 1 of g -> case g 2 of T a b -> a",
		"f = case R 1 of g -> case (g 2, g 3) of (R { b = x, a = y }, R a b) -> x + y + a + b",
		"f = a ((h 2) { b = 3, a = 4 }) where h = R 1",
		"f = a (R { b = g (k R), a = 2 }) where { k h = h 1 2; g (R x y) = x }",
		"f = case map (T 1) [2] of [T a b] -> a + b",
	} {
		wantTypes(t, "f : Int", data+x)
	}
}

// The whole Prelude.
func TestPrelude(t *testing.T) {
	all, d := infer.Types(tree(t, api.Prelude))
	if d != (api.Diag{}) {
		t.Fatal(d)
	}
	got := map[string]string{}
	for _, x := range all {
		got[x.Name] = x.Type
	}
	for name, want := range map[string]string{
		"digits": "Int -> [Int] -> [Int]", "commas": "Show a => [a] -> [Int]", "+": "Int -> Int -> Int", "quot": "Int -> Int -> Int",
		"/=": "Eq a => a -> a -> Bool", "<": "Ord a => a -> a -> Bool", ">=": "Ord a => a -> a -> Bool", "&&": "Bool -> Bool -> Bool",
		"not": "Bool -> Bool", "$": "(a -> b) -> a -> b", ".": "(a -> b) -> (c -> a) -> c -> b", "id": "a -> a", "const": "a -> b -> a",
		"flip": "(a -> b -> c) -> b -> a -> c", "seq": "a -> b -> b", "error": "a", "fst": "(a, b) -> a", "snd": "(a, b) -> b",
		">>": "Monad a => a b -> a c -> a c", "++": "[a] -> [a] -> [a]", "map": "(a -> b) -> [a] -> [b]", "filter": "(a -> Bool) -> [a] -> [a]",
		"foldr": "(a -> b -> b) -> b -> [a] -> b", "foldl": "(a -> b -> a) -> a -> [b] -> a", "concat": "[[a]] -> [a]", "length": "[a] -> Int",
		"head": "[a] -> a", "tail": "[a] -> [a]", "take": "Int -> [a] -> [a]", "reverse": "[a] -> [a]", "sum": "[Int] -> Int",
		"iterate": "(a -> a) -> a -> [a]", "zip": "[a] -> [b] -> [(a, b)]", "getByte": "IO Int", "putByte": "Int -> IO ()", "putBytes": "[Int] -> IO ()",
	} {
		if got["Prelude."+name] != want {
			t.Errorf("%s: got %q, want %q", name, got["Prelude."+name], want)
		}
	}
	if len(got) != 41 || len(all) != 41 || all[0].Name != "Prelude.digits" || all[40].Name != "Prelude.putBytes" {
		t.Error(len(got), len(all))
	}
}

// The given schemes.
func TestGiven(t *testing.T) {
	data := "data T f a = N | C a (f a) [U] | R { l :: a, m :: f (T f a) -> Int } | (:*) Int a\ndata U = U\n"
	class := "class K k where { c :: k -> b; d :: k; (<>) :: a -> k }\nclass F f where { e :: f a -> f b -> c }\n"
	for _, x := range []struct{ of, want string }{
		{"N", "T a b"},
		{"C", "a -> b a -> [U] -> T b a"},
		{"R", "a -> (b (T b a) -> Int) -> T b a"},
		{"(:*)", "Int -> a -> T b a"},
		{"l", "T a b -> b"},
		{"m", "T a b -> a (T a b) -> Int"},
		{"U", "U"},
		{"c", "K a => a -> b"},
		{"d", "K a => a"},
		{"(<>)", "K b => a -> b"},
		{"e", "F a => a b -> a c -> d"},
		{"return", "Monad b => a -> b a"},
		{"(>>=)", "Monad a => a b -> (b -> a c) -> a c"},
		{"fmap", "Functor c => (a -> b) -> c a -> c b"},
		{"()", "()"},
		{"(,)", "a -> b -> (a, b)"},
		{"(,,)", "a -> b -> c -> (a, b, c)"},
		{"(:)", "a -> [a] -> [a]"},
		{"True", "Bool"},
		{"False", "Bool"},
		{"Just", "a -> Maybe a"},
		{"primAdd", "Int -> Int -> Int"},
		{"primSub", "Int -> Int -> Int"},
		{"primMul", "Int -> Int -> Int"},
		{"primQuot", "Int -> Int -> Int"},
		{"primRem", "Int -> Int -> Int"},
		{"primEq", "Int -> Int -> Bool"},
		{"primLt", "Int -> Int -> Bool"},
		{"primLe", "Int -> Int -> Bool"},
		{"primGet", "IO Int"},
		{"primPut", "Int -> IO ()"},
		{"primReturn", "a -> IO a"},
		{"primBind", "IO a -> (a -> IO b) -> IO b"},
		{"primSeq", "a -> b -> b"},
		{"primRaise", "a"},
	} {
		wantType(t, x.want, "import Prim\nimport Prelude\n"+data+class+"f = "+x.of)
		// Each use has a type of its own.
		wantType(t, "Bool", "import Prim\nimport Prelude\n"+data+class+"f = let { g = "+x.of+"; h = "+x.of+" } in True")
	}
	wantType(t, "(Int -> Maybe Int, Bool -> Maybe Bool, Maybe [a])", "f = (\\x -> Just (x + 1), \\x -> Just (not x), Just [])")
}

// row is a row of the typing rules: what keeps it, and what breaks it.
type row struct {
	want  string // the type of f
	kept  string
	wrong []string
}

func (r row) hold(t *testing.T, ahead string) {
	t.Helper()
	wantType(t, r.want, ahead+r.kept)
	for _, text := range r.wrong {
		wantWrong(t, api.ErrType, ahead+text)
	}
}

// The typing rules of names, numbers, texts, applications and functions.
func TestFunctionRules(t *testing.T) {
	for _, r := range []row{
		{"Int", "f = 1", []string{"§f = 1 1", "§f = not 1", "§f = 1 : \"a\" : []"}},
		{"[Int]", "f = \"ab\"", []string{"§f = \"ab\" + 1", "§f = [\"ab\", [True]]", "§f = not \"\""}},
		{"Int", "f = id 1", []string{"§f = 1 id", "§f = not 1", "§f = id id 1 1", "§f x = x x"}},
		{"(a -> b) -> a -> b", "f g x = g x", []string{"§f g x = g x + g g", "§f g = (g 1, g True)"}},
		{"a -> b -> (b, a)", `f = \x y -> (y, x)`, []string{`§f = (\x y -> x) 1 2 3`, `§f = (\x -> x + 1) True`, `§f = \x -> x x`}},
		{"(a, [b]) -> (b, a)", `f = \(x, y : _) -> (y, x)`, []string{`§f = \(x, y : _) -> x : y : x`, `§f = (\(x, y) -> x) []`}},
		{"Int -> Int", "f = (1 +)", []string{"§f = (True +)", "§f = (1 + 1) 1", "§f = (1 `id`) 1"}},
		{"[a] -> [a]", "f = ([] ++)", []string{"§f = (1 ++)"}},
		{"[Int] -> [Int]", "f = (1 :)", []string{"§f = (1 :) True"}},
		{"Int -> Int", "f = (+ 1)", []string{"§f = (+ True)", "§f = (+ 1) True", "§f = (`not` 1)"}},
		{"a -> [a]", "f = (: [])", []string{"§f = (: 1)"}},
		{"(a -> b) -> b", "f = (`id` x)\nx = error", []string{"§f = (`not` 1) 2"}},
		{"Bool -> a -> a -> a", "f c x y = if c then x else y", []string{"§f = if 1 then 2 else 3", "§f = if True then 1 else False", "§f x = if x then x else 1"}},
		{"(Int, Bool)", "f = (1, True)", []string{"§f = fst (1, 2, 3)", "§f = not (True, True)", "§f = [(1, 2), (1, 2, 3)]"}},
		{"(Int, Bool, ())", "f = (1, True, ())", []string{"§f = [(1, 2, 3), (1, 2, True)]", "§f = not ()"}},
		{"[Int]", "f = [1, 2, 3]", []string{"§f = [1, True]", "§f = [1] + 1", "§f = [[1], 1]"}},
		{"[a]", "f = []", []string{"§f = [] + 1"}},
	} {
		r.hold(t, "")
	}
}

// No type is a part of itself, in the type of a name or anywhere else.
func TestEndless(t *testing.T) {
	for _, text := range []string{
		"§f x = x x",
		"§f = const 1 (\\x -> x x)",
		"§f = const 1 (\\x -> x == [x])",
		"§f = const 1 (\\x -> show x == show (x, [x : x]))",
		"§f = const 1 (\\x y z -> [(x, y, z), (y, [z], [x])])",
		"§f = const 1 (\\x y z -> [(x, y, z), ([y], z, (x, 1))])",
		"§f = const 1 (\\x y -> let g z = [x, y] in [x, [g 1]])",
		"§f = const 1 (\\x -> let g z = x in case x of { [y] -> [x, g y, g (g y)] == [y] })",
		"§f = case error of { (x, y) -> const 1 [x, \\z -> x] }",
		"§f = const 1 (\\x -> let (y, z) = (head x, [x]) in [x, z])",
		"§f = const 1 (do { x <- getByte; y <- error; return (y == [y]) })",
		"instance Show (a -> b) where { §show f = const [] (\\x -> x x) }",
	} {
		wantWrong(t, api.ErrType, text)
	}
	wantType(t, "(a -> b) -> a -> Int", "f g x = const 1 (\\y z -> [(x, y, z), (x, g x, [x])])")
}

// Those of patterns.
func TestPatternRules(t *testing.T) {
	data := "data P a = Z | D a (P a) Int | R { l :: a, k :: Int }\n"
	for _, r := range []row{
		{"P a -> [a]", "f (D x _ _) = [x]\nf Z = []", []string{"§f (D x _) = x", "§f (D x _ _ _) = x", "§f (Z x) = x", "§f D = 1", "§f (D x y 1) = x + y"}},
		{"P a -> P b -> b", "f (R x 0) (D y _ _) = y", []string{"§f (R x True) = x", "§f (R x 1) = x\nf [] = 1"}},
		{"(P a, P Int) -> Int", "f (D x (D y _ z) i, R 5 _) = z + i", []string{"§f (D x (D y z _) i) = z + i"}},
		{"() -> Int", "f () = 1", []string{"§f () = 1\nf True = 2", "§f (() x) = 1"}},
		{"Bool -> Int", "f True = 1\nf False = 0", []string{"§f True = 1\nf 0 = 0", "§f (True x) = 1"}},
		{"[a] -> a", "f (x : y) = x\nf ((:) x y) = x", []string{"§f (x : y) = x == y", "§f ((:) x) = x", "§f ((:) x y z) = x"}},
		{"(a, b) -> a", "f ((,) x y) = x", []string{"§f ((,) x) = x", "§f ((,) x y z) = x"}},
		{"(a, b, c) -> b", "f ((,,) x y z) = y", []string{"§f ((,,) x y) = y"}},
		{"Int -> Bool", "f 0 = True\nf n = False", []string{"§f 0 = 1\nf n = True", "§f 0 = not 0", "§f 0 = 1\nf \"\" = 2"}},
		{"[Int] -> Int", "f \"ab\" = 1\nf (x : _) = x", []string{"§f \"ab\" = 1\nf 0 = 1", "§f \"a\" = 1\nf [True] = 1"}},
		{"(a, b) -> b", "f (x, y) = y", []string{"§f (x, y) = x\nf (x, y, z) = x", "§f (x, y) = x y\nf (1, y) = 1"}},
		{"(a, b, c) -> c", "f (x, y, z) = z", []string{"§f (x, y, z) = z + y\nf (x, True, z) = z"}},
		{"[a] -> a", "f [x, y, z] = y\nf [] = error", []string{"§f [1, True] = 1", "§f [x, y] = x y"}},
		{"a -> Int", "f _ = 1", []string{"§f _ _ = 1 1"}},
		{"[a] -> ([a], a)", "f x@(y : _) = (x, y)", []string{"§f x@(y : _) = [x, y]", "§f x@1 = not x"}},
		{"P a -> (P a, Int)", "f x@R { k = y } = (x, y)", []string{"§f R { k = y } = not y", "§f R { k = True } = 1", "§f R { k = y } = y\nf True = 1"}},
		{"P a -> (a, Int)", "f R { k = y, l = x } = (x, y)", []string{"§f R { k = y, l = y1 } = y1 y1"}},
		{"P a -> Int", "f R {} = 1\nf D {} = 2\nf Z {} = 3", []string{"§f R {} = 1\nf [] = 1"}},
		{"Bool -> Int", "f True {} = 1\nf False = 2", []string{"§f True {} = 1\nf () {} = 2"}},
		{"([a], (b, c), ()) -> Int", "f ((:) {}, (,) {}, () {}) = 1", nil},
	} {
		r.hold(t, data)
	}
}

// Those of expressions that contain further ones.
func TestCaseRules(t *testing.T) {
	for _, r := range []row{
		{"[a] -> Int", "f x = case x of { [] -> 1; y : z -> f z }", []string{"§f x = case x of { [] -> 1; True -> 2 }", "§f x = case x of { [] -> 1; _ -> True }",
			"§f = case 1 of { True -> 1 }"}},
		{"Maybe a -> a -> a", "f x z = case x of { Just y | True -> y\n              | False -> z; _ -> z }", []string{"§f x z = case x of { Just y | 1 -> y }", "§f x = case x of { Just y | True -> y | True -> 1; Nothing -> [] }"}},
		{"Int -> Bool -> Int", "f x y | y = x\n    | x == 1 = 2\n    | True = 3", []string{"§f x y | y = x\n    | x = 2", "§f x | x = x\n    | True = 1"}},
		{"a -> a", "f x = y where { y = z; z = x }", []string{"§f x = y where { y = not x; z = x + 1 }", "§f x = y x where { y = 1 }"}},
		{"Int -> Int", "f x | y = z\n    | True = x where { y = x == 1; z = x }", []string{"§f x | y = z where { y = x; z = x }\nf 1 = 2"}},
		{"a -> (a, [a])", "f x = let { y = [x]; z = x } in (z, y)", []string{"§f x = let y = x in y x", "§f x = let y = 1 1 in 2", "§f = let y = 1 in not y"}},
		{"(Int, Bool)", "f = let i x = x in (i 1, i True)", []string{"§f = (\\i -> (i 1, i True)) id"}},
		{"Int", "f = let { (x, y) = (1, z); z = True } in if y then x else 2", []string{"§f = let (x, y) = 1 in x", "§f = let (x, y) = (1, 2) in not y", "§f = let [x] | 1 = [1] in x"}},
		{"Int -> Int -> [Int]", "f 1 x = [x]\nf x 2 = [x]", []string{"§f 1 x = [x]\nf x 2 = x", "§f 1 True = 1\nf True 1 = 1"}},
		{"Int -> Bool -> Int", "f x True = g x where g y = y\nf x False = g True where g y = 1", []string{"§f x True = g x where g y = y\nf x False = g x where g y = [y]"}},
	} {
		r.hold(t, "")
	}
	// A DPat has the type of its DRhs, and so have its variables.
	wantTypes(t, "x : Int\ny : [a]", "(x, y) = (1, [])")
	wantTypes(t, "x : Maybe Int\ny : Int", "x@(Just y) = Just 1")
	wantTypes(t, "x : [Int]", "1 = 2\n_ = True\n(x) | True = [1]\n    | False = []")
	wantTypes(t, "x : [Int]\ny : Int\nz : [Int]", "x@(y : z@[]) | 1 == y = z\n    | True = \"\"")
	wantWrong(t, api.ErrType, "§(x, y) = [1]")
	wantWrong(t, api.ErrType, "§[] = 1")
	wantWrong(t, api.ErrType, "§(x, True) = (1, 2)")
	wantWrong(t, api.ErrType, "§(x, y) | x = (1, 2)")
	wantWrong(t, api.ErrType, "§(x, y) = (1, y1) where y1 = not 1")
}

// Those of an EDo.
func TestDoRules(t *testing.T) {
	for _, r := range []row{
		{"a -> a", "f x = do { x }", []string{"§f = do { 1 } + True"}},
		{"Int", "f = do { 1 }", nil},
		{"Monad a => a b -> a [b]", "f m = do { x <- m; y <- m; return [x, y] }", []string{"§f m = do { x <- m; return (x x) }", "§f = do { x <- 1; [x] }", "§f = do { x <- [1]; Just x }"}},
		{"Monad a => a b -> a c -> a c", "f m k = do { m; k }", []string{"§f = do { 1; [1] }", "§f = do { [1]; 1 }", "§f = do { [1]; Just 1; [2] }"}},
		{"Monad a => a (b, c) -> a b", "f m = do { (x, y) <- m; return x }", []string{"§f = do { (x, y) <- [1]; [x] }", "§f = do { True <- Just 1; Just 2 }"}},
		{"IO (Int, [Int])", "f = do { x <- getByte; let { y = [x] }; putBytes y; return (x, y) }", []string{"§f = do { x <- getByte; let { y = [x] }; putBytes x; return y }"}},
		{"Int", "f = do { let { x = 1; i y = y }; let { z = i True }; if z then i x else 2 }", []string{"§f = do { let { x = 1 1 }; 2 }", "§f = do { let { x = 1 }; not x }"}},
		{"[(Int, Bool)]", "f = do { x <- [1, 2]; y <- [True]; [3]; [(x, y)] }", []string{"§f = do { x <- [1, 2]; y <- [True]; 3; [(x, y)] }"}},
		{"Maybe Int", "f = do { x <- Just 1; let { y = x; g z = z }; Just True; g (Just (g y)) }", nil},
		{"Int -> Maybe a", "f x | x == 1 = do { y <- Just x; f (y - 1) }\nf x = Nothing", nil},
	} {
		r.hold(t, "")
	}
	// Which `>>=` it uses is told by its name, and its type is that of each use.
	own := "module Prelude where\nm >>= k = k (m, 1)\nf = do { (x, 1) <- True; y <- \"a\"; x }\n"
	all, d := infer.Types(tree(t, own))
	if d != (api.Diag{}) || len(all) != 2 || all[0].Type != "a -> ((a, Int) -> b) -> b" || all[1].Type != "Bool" {
		t.Error(all, d)
	}
	all, d = infer.Types(trees(t, "module Prelude where\ndata B = B { (>>=) :: Int -> Int }", "module M where\nf = do { x <- B id; 1 }\nid x = x")...)
	if d != (api.Diag{File: "M", Line: 2, Col: 1, Number: api.ErrType}) || len(all) != 0 {
		t.Error(all, d)
	}
	all, d = infer.Types(trees(t, "module Prelude where\n(>>=) = \\x y -> y\n", "module M where\nx >>= y = True\nf = do { 1; 2 }\ng = do { 1 }")...)
	if d != (api.Diag{}) || say(all) != ">>= : a -> b -> Bool\nf : a -> Int\ng : Int" {
		t.Error(say(all), d)
	}
}

// A declaration with an EDo uses the >>= of the Prelude, also in the Prelude
// itself, where that may be a value of any type.
func TestDoUses(t *testing.T) {
	const start = "module Prelude where\nimport Prim\n"
	for _, x := range []struct{ want, text string }{
		{"a -> [[a]]", "f x = do { y <- x; g y }\ng x = [x]\nx >>= y = y [x]"},
		{"a -> b -> b", "f x y = do { x; y }\nx >>= y = y [x]"},
		{"a -> [a]", "f x = do { y <- x; let { z = y }; z }\nx >>= y = y [x]"},
		{"a -> b", "f x = do { y <- x; y }\nx >>= y = do { z <- x; y z }"},
		{"a -> a", "f x = do { x }\nx >>= y = f y"},
	} {
		all, d := infer.Types(tree(t, start+x.text))
		if d != (api.Diag{}) || all[0] != (api.Typed{Name: "Prelude.f", Type: x.want}) {
			t.Error(x, all, d)
		}
	}
	for line, text := range []string{
		"f = 1 1\ng = do { f; f }\nx >>= y = 1 1",
		"f = do { f; f }\ng = 1 1\nx >>= y = 1 1",
		"f = do { 1 }\nx >>= y = f 1",
		"f = do { let { g = 1 }; g }\nx >>= y = 1 1\ng = 1 1",
	} {
		want := api.Diag{File: "Prelude", Line: 3 + line%2, Col: 1, Number: api.ErrType}
		if all, d := infer.Types(tree(t, start+text)); d != want || len(all) != 0 {
			t.Error(text, all, d)
		}
	}
}

// Those of records.
func TestRecordRules(t *testing.T) {
	data := "data R a b = R { x :: a, y :: b, z :: Int } | S { u :: a, v :: [a] } | T a Int\n"
	for _, r := range []row{
		{"a -> R a Bool", "f a = R { z = 1, x = a, y = True }", []string{"§f = R { z = True }", "§f = R { x = 1 } + 1", "§f = R { z = 1 } : [1]"}},
		{"R Int a", "f = R { x = 1 }", []string{"§f = not R { x = 1 }"}},
		{"((R a b, R c d, R e f), ([g], (h, i), Bool))", "f = ((R {}, S {}, T {}), ((:) {}, (,) {}, True {}))", []string{"§f = [R {}, True {}]", "§f = T {} 1 2"}},
		{"a -> R a b", "f a = S { u = a, v = [a] }", []string{"§f a = S { u = a, v = a }", "§f = S { u = 1, v = [True] }"}},
		{"R a b -> a -> R a b", "f r a = r { x = a }", []string{"§f = not { x = 1 }", "§f r = r { z = True }", "§f r = not r { z = 1 }"}},
		{"R a Bool -> R a Bool", "f r = r { z = 1, y = True }", []string{"§f r = r { z = 1, y = True } { y = 1 }", "§f r = r { z = 1, u = 2 }", "§f r = r { u = 2, z = 1 }"}},
		{"R Int a -> R Int a", "f r = r { u = 1 } { x = 2 }", []string{"§f r = r { u = 1 } { x = True }", "§f r = (r { u = 1 }, r { u = True })"}},
		{"(a -> R b c) -> a -> b -> R b c", "f g r a = (g r) { u = a }", []string{"§f g r = (g 1) { u = g }", "§f g r = (g 1) { u = r, v = r }"}},
		{"R a b -> a", "f = x", []string{"§f = x True", "§f = [x, not]"}},
	} {
		r.hold(t, data)
	}
	// A field of another module, and one whose name a local variable has.
	wantTypes(t, "f : R a -> a -> R a", "module A where\ndata R a = R { x :: a }", "import A\nimport Prelude\nf r x = r { x = x }")
}
