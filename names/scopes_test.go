package names_test

import (
	"testing"

	"teasel/api"
)

// P4.1: where local bindings are in scope, and their numbers.
func TestScopes(t *testing.T) {
	for _, c := range [][2]string{
		// clauses, lambdas, alternatives
		{"f x = x\ng x = x", "A.f x.1 x.1 A.g x.2 x.2"},
		{"f x y = x\nf y x = x", "A.f x.1 y.2 x.1 y.3 x.4 x.4"},
		{"f f = f", "A.f f.1 f.1"},
		{"x + y = y + x", "A.+ x.1 y.2 y.2 A.+ x.1"},
		{"f (+) = (+) + 1", "A.f +.1 +.1 +.1"},
		{`f = \x -> \x -> x`, "A.f x.1 x.2 x.2"},
		{`f x = (\x -> x) x`, "A.f x.1 x.2 x.2 x.1"},
		{`f = \x y -> y x`, "A.f x.1 y.2 y.2 x.1"},
		{"f x = case x of { x -> x; (y, x) -> x y }", "A.f x.1 x.1 x.2 x.2 y.3 x.4 x.4 y.3"},
		{"f x = case x of { y | x -> y | y -> x where { x = y } }", "A.f x.1 x.1 y.2 x.3 y.2 y.2 x.3 x.3 y.2"},
		// patterns
		{"f x@(y : z@_) [a, b] (c, d, e) = x y z a b c d e",
			"A.f x.1 y.2 Prim.: z.3 a.4 b.5 c.6 d.7 e.8 x.1 y.2 z.3 a.4 b.5 c.6 d.7 e.8"},
		{"data R = R { l :: R } | S R\nf (R { l = l }) (S m) = l m", "A.R A.R A.l A.R A.S A.R A.f A.R A.l l.1 A.S m.2 l.1 m.2"},
		{`f 1 "x" _ = 2`, "A.f x"},
		{`f _x = "x" _x`, "A.f _x.1 x _x.1"},
		// declarations
		{"f x = let { y = x; x = y } in x y", "A.f x.1 y.2 x.3 x.3 y.2 x.3 y.2"},
		{"f = let { g x = h x; h x = g x } in g", "A.f g.1 x.2 h.3 x.2 h.3 x.4 g.1 x.4 g.1"},
		{"f = let { (x, y) = (y, x) } in x", "A.f x.1 y.2 y.2 x.1 x.1"},
		{"f = let { z@(x : y) = z } in x y", "A.f z.1 x.2 Prim.: y.3 z.1 x.2 y.3"},
		{"f = let { } in let { f = f } in f", "A.f f.1 f.1 f.1"},
		{"f = (let { x = 1 } in x) (let { x = 2 } in x)", "A.f x.1 x.1 x.2 x.2"},
		{"f = let { a + b = a } in 1 + 2", "A.f +.1 a.2 b.3 a.2 +.1"},
		{"f = let { g 1 = g; g x = x } in g", "A.f g.1 g.1 x.2 x.2 g.1"},
		// the guards of a where come ahead of it in the tree
		{`f x = \y -> g where { g z = y' z; y' = x }`, "A.f x.1 y.2 g.3 g.3 z.4 y'.5 z.4 y'.5 x.1"},
		{"f x | g = h | h = x where { g = x; x = h; h = 1 }", "A.f x.1 g.2 h.4 h.4 x.3 g.2 x.3 x.3 h.4 h.4"},
		{"f x = x where { g = x where { x = g } }", "A.f x.1 x.1 g.2 x.3 x.3 g.2"},
		{"f x = case x of { y -> z where { z = y } } where { w = x }", "A.f x.1 x.1 y.2 z.3 z.3 y.2 w.4 x.1"},
		{"(x, y) = let { x = y } in x where { y = x }", "A.x A.y x.1 y.2 x.1 y.2 A.x"},
		{"f x = y where { y = x }\ng x = y where { y = x }", "A.f x.1 y.2 y.2 x.1 A.g x.3 y.4 y.4 x.3"},
		// records
		{"data R = R { l :: R }\nf l = l { l = l }", "A.R A.R A.l A.R A.f l.1 l.1 A.l l.1"},
		{"data R = R { l :: R }\nf l = R { l = l }", "A.R A.R A.l A.R A.f l.1 A.R A.l l.1"},
		{"data R = R { l :: R, (#) :: R }\nf x = x { (#) = 1, l = 2 } { l = 3 }", "A.R A.R A.l A.R A.# A.R A.f x.1 x.1 A.# A.l A.l"},
		// operators
		{"f x = (x `f`) (`x` f) (x `x` x)", "A.f x.1 x.1 A.f x.1 A.f x.1 x.1 x.1"},
		{"data T = T | (:+) T T\nf (x `T` y :+ z) = x :+ y `T` z",
			"A.T A.T A.:+ A.T A.T A.f x.1 A.T y.2 A.:+ z.3 x.1 A.:+ y.2 A.T z.3"},
		{"f x = [if x then x else f, (x, f)]", "A.f x.1 x.1 x.1 A.f x.1 A.f"},
	} {
		wantIn(t, c[0], c[1])
	}
}

// P4.1: statements see what those ahead of them bind.
func TestStatements(t *testing.T) {
	prelude := "module Prelude where\nm >>= k = m"
	for _, c := range [][2]string{
		{"f x = do { x <- x; x <- x; x }", "A.f x.1 x.2 x.1 x.3 x.2 x.3"},
		{"f x = do { let { x = x }; x }", "A.f x.1 x.2 x.2 x.2"},
		{"f x = do { x; let { y = x; x = y }; x <- x y; x y }", "A.f x.1 x.1 y.2 x.3 x.3 y.2 x.4 x.3 y.2 x.4 y.2"},
		{"f x = (do { (x, y) <- x; x }) x", "A.f x.1 x.2 y.3 x.1 x.2 x.1"},
		{"f x = (do { x <- do { x <- x; x }; x }) x", "A.f x.1 x.2 x.3 x.1 x.3 x.2 x.1"},
		{"f x = do { y <- \\x -> x; x y } where { x = 1 }", "A.f x.1 y.2 x.3 x.3 x.4 y.2 x.4"},
		{"f x = case do { let { x = 1 }; x } of { y -> x }", "A.f x.1 x.2 x.2 y.3 x.1"},
		{"f = do { x <- 1; let { }; y@z <- x; x y z }", "A.f x.1 y.2 z.3 x.1 x.1 y.2 z.3"},
		{"f x = [do { x <- x; x }, do { x <- x; x }, x]", "A.f x.1 x.2 x.1 x.2 x.3 x.1 x.3 x.1"},
		{"f x = [do { x <- x; x <- x; let { x = x }; x }, x]", "A.f x.1 x.2 x.1 x.3 x.2 x.4 x.4 x.4 x.1"},
		{"f = do { do { x <- f; x }; let { x = f }; x }", "A.f x.1 A.f x.1 x.2 A.f x.2"},
	} {
		wantLast(t, c[1], prelude, "module A where\n"+c[0])
	}
	wantLast(t, "Prelude.m Prelude.f x.1 Prelude.m x.1 Prelude.>>= m.2 k.3 m.2",
		"module Prelude where\nm = 1\nf = do { x <- m; x }\nm >>= k = m")
}

// P4.2: an EDo needs a value >>= of a module Prelude, whatever is in scope.
func TestDoNeedsPrelude(t *testing.T) {
	wantLast(t, "A.f", "module Prelude () where\n(>>=) = 1", "module A where\nimport Prelude ()\nf = do { 1 }")
	wantLast(t, "A.f", "module Prelude where\nclass M m where (>>=) :: m", "module A where\nf = do { 1 }")
	wantLast(t, "A.f", "module Prelude where\n((>>=), x) = 1", "module A where\nf = do { 1 }")
	wantLast(t, "A.f", "module Prelude where\ndata T = T { (>>=) :: T }", "module A where\nf = do { 1 }")
	wantLast(t, "Prelude.>>=", "module Prelude where\n(>>=) = do { 1 }")
	wantWrong(t, api.ErrUnknown, "module A where\n(>>=) = 1\nf = §do { 1 }")
	wantWrong(t, api.ErrUnknown, "module Prelude where\nf = 1", "module A where\n(>>=) = 1\nf = §do { 1 }")
	wantWrong(t, api.ErrUnknown, "module Prelude where\nf = let { (>>=) = 1 } in §do { 1 }")
	wantWrong(t, api.ErrUnknown, "module Prelude where\ndata T = (:>>=)\nf = §do { x; do { y } }")
}

// P4.1: the functions of an instance are methods of its class, whatever their
// names mean in the module; within it the module's meaning holds.
func TestInstances(t *testing.T) {
	class := "module B where\nclass K k where\n  m :: k\n  (+) :: k"
	wantLast(t, "B.K Prim.Int B.m B.+ B.+ B.m", class, "module C where\nimport B\ninstance K Int where\n  m = (+)\n  (+) = m")
	wantLast(t, "C.m B.K Prim.Int B.m C.m", class, "module C where\nimport B\nm = 1\ninstance K Int where m = m")
	wantLast(t, "B.K Prim.Int B.m m.1 m.1 B.+ a.2 b.3 a.2 B.+ b.3", class,
		"module C where\nimport B\ninstance K Int where\n  m m = m\n  a + b = a + b")
	wantLast(t, "B.K Prim.Int B.m x.1 y.2 y.2 x.1 C.f x.3 x.3 B.K Prim.Bool B.m x.4 x.4", class,
		"module C where\nimport B\ninstance K Int where m x = y where y = x\nf x = x\ninstance K Bool where m x = x")
	wantLast(t, "B.K B.K a C.J b C.T a b C.J j C.T a b", class,
		"module C where\nimport B\ninstance (K a, J b) => K (T a b)\nclass J j\ndata T a b")
	wantLast(t, "B.K B.K a Prim.[] a B.m B.m", class, "module C where\nimport B (K)\ninstance K a => K [a] where m = m")
	wantIn(t, "class K k where m :: k\ninstance K Int where { m = 1 }\ninstance K Bool where { m = 2 }",
		"A.K k A.m k A.K Prim.Int A.m A.K Prim.Bool A.m")
}

// P4.1: type variables, strings and the word of a fixity stay as they are.
func TestStays(t *testing.T) {
	wantIn(t, "infixr 5 `a`\na = \"a\"\nb \"a\" = 1\ndata T a = T a\nclass C a where c :: a -> b",
		"infixr A.a A.a a A.b a A.T a A.T a A.C a A.c Prim.-> a b")
}
