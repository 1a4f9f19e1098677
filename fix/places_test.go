package fix_test

import (
	"strings"
	"testing"

	"teasel/api"
	"teasel/names"
)

// P5.1: sequences are replaced wherever they stand. Written as applications
// by hand, they are the same.
func TestPlaces(t *testing.T) {
	const ahead = `module Prelude where
infixl 6 +
infixr 7 *
infixr 6 :+
a + b = a
a * b = a
m >>= k = m
data T = (:+) T T | R { l :: T, m :: T }
class C c where c :: c
`
	for _, text := range []string{
		"f = §",
		"f | § = 1",
		"f | 1 = 2 | § = §",
		"f = 1 where g = §",
		"f = 1 where { g | § = 2; (h, i) = § }",
		"f ¶ = §",
		"f 1 ¶ ¶ = 1\nf ¶ 1 2 = 3",
		"f = 1 where g ¶ = §",
		"(a, ¶) = §",
		"[¶] = let [¶] = § in §",
		"instance C T where c = §",
		"instance C T where { c 1 ¶ = 2; c ¶ 3 = § }",
		"f = g § where g = f",
		"f = § §",
		"f = \\¶ 1 ¶ -> §",
		"f = let g = § in §",
		"f = let { g ¶ = 1 where h = §; i = 2 } in 3",
		"f = if § then § else §",
		"f = case § of { ¶ -> §; ¶ | § -> § | 1 -> § where g = § }",
		"f = do { ¶ <- §; let { g = §; (h, ¶) = § }; §; ¶ <- 1; § }",
		"f = (§, §)",
		"f = (§, 1, §)",
		"f = [§, 1, §]",
		"f = (§ +) (+ §) (§ :+) (:+ §)",
		"f = R { l = §, m = § }",
		"f = § { l = §, m = § }",
		"f = § + §",
		"f = § * f § + f (§)",
		"f R { l = ¶, m = ¶ } = 1",
		"f g@¶ [¶, ¶] (¶, 1, ¶) (R ¶ ¶) = 1",
		"f (¶ :+ R (¶ :+ ¶)) = 1",
	} {
		infix := strings.NewReplacer("§", "(1 + 2 * 3 * 4 + 5)", "¶", "(6 :+ _ :+ 7)").Replace(text)
		prefix := strings.NewReplacer("§", "((+) ((+) 1 ((*) 2 ((*) 3 4))) 5)", "¶", "((:+) 6 ((:+) _ 7))").Replace(text)
		wantSame(t, ahead+infix, ahead+prefix)
	}
}

// P5.1: what has no sequence stays as names.Resolve answers it.
func TestTheRestStays(t *testing.T) {
	texts := []string{`module Prelude where
import Prim
class Monad m where
  return :: a -> m a
  (>>=) :: m a -> (a -> m b) -> m b
instance Monad IO where { return = primReturn; x >>= y = x }
f = \x -> do { y <- x; let { z = y; (v, w) = z }; y; x@(y, _) <- v w; x y z }`,
		`module A (g, (<>), Q) where
g x | x = if x then g else 1 | True = [g, "s", (g, 2, ())]
(<>) a = case a of { Q { x = 1 } -> g; Q "s" (Q [] 2) -> (:) }
data Q = Q { x :: Q, y :: Int } | E [Q] Int
h q = q { x = Q { x = q, y = 2 } }`}
	want, d := names.Resolve(trees(t, texts...)...)
	if d != (api.Diag{}) {
		t.Fatal(d)
	}
	if got, want := sayTrees(mended(t, trees(t, texts...)...)), sayTrees(want); got != want {
		t.Errorf("got  %s\nwant %s", got, want)
	}
}

// P5.1: a module's own fixities, of whatever its operators are, also if they
// are told behind the use.
func TestOwnFixities(t *testing.T) {
	const owners = "data T = C | (:+) | R { l :: T, (#) :: T }\nclass K k where { m :: k; (!) :: k }\n(p, q@(&)) = 1\ng = 2\n(-) = 3\n"
	for _, op := range strings.Fields("`C` :+ `R` `l` # `m` ! `p` `q` & `g` -") {
		full := "M." + strings.Trim(op, "`")
		left := "(" + full + " (" + full + " 1 2) 3)"
		right := "(" + full + " 1 (" + full + " 2 3))"
		body := "f = 1 " + op + " 2 " + op + " 3"
		for _, c := range [][2]string{
			{"module M where\n" + owners + body, left},
			{"module M where\ninfixl 4 " + op + "\n" + owners + body, left},
			{"module M where\ninfixr 4 " + op + "\n" + owners + body, right},
			{"module M where\n" + owners + "infixr 9 " + op + "\n" + body, right},
		} {
			if got := bodyOf(t, c[0]); got != c[1] {
				t.Errorf("%s\n%s, not %s", c[0], got, c[1])
			}
		}
		out := mended(t, tree(t, "module M where\n"+body+"\n"+owners+"infixr 0 "+op))
		if got := brief(out[0].Subs[2].Subs[0].Subs[0].Subs[1].Subs[0].Subs[0].Subs[1]); got != right {
			t.Errorf("%s: %s, not %s", op, got, right)
		}
	}
}

// P5.1: all levels, from 0 to 9, and infixl 9 and infixr 5 where nothing is
// declared.
func TestLevels(t *testing.T) {
	const owners = "(+) = 1\n(-) = 2\n(%) = 3\n"
	for low := range 10 {
		for high := low + 1; high < 10; high++ {
			for _, keywords := range [][2]string{{"infixl", "infixl"}, {"infixr", "infix"}, {"infix", "infixr"}, {"infix", "infix"}} {
				text := "module M where\n" + keywords[0] + " " + string(rune('0'+low)) + " +\n" +
					keywords[1] + " " + string(rune('0'+high)) + " -\n" + owners
				if got := bodyOf(t, text+"f = 1 + 2 - 3"); got != "(M.+ 1 (M.- 2 3))" {
					t.Error(low, high, got)
				}
				if got := bodyOf(t, text+"f = 1 - 2 + 3"); got != "(M.+ (M.- 1 2) 3)" {
					t.Error(low, high, got)
				}
			}
		}
		text := "module M where\ninfixl " + string(rune('0'+low)) + " +\n" + owners
		want := "(M.+ 1 (M.% 2 3))"
		if low == 9 {
			want = "(M.% (M.+ 1 2) 3)"
		}
		if got := bodyOf(t, text+"f = 1 + 2 % 3"); got != want {
			t.Error(low, got)
		}
		want = "(M.+ 1 (Prim.: 2 3))"
		if low > 5 {
			want = "(Prim.: (M.+ 1 2) 3)"
		}
		if got := bodyOf(t, strings.Replace(text, "infixl", "infixr", 1)+"f = 1 + 2 : 3"); low != 5 && got != want {
			t.Error(low, got)
		}
	}
	if got := bodyOf(t, "module M where\ninfixr 5 +\n(+) = 1\nf = 1 : 2 + 3 : 4"); got != "(Prim.: 1 (M.+ 2 (Prim.: 3 4)))" {
		t.Error(got)
	}
}

// P5.1: operators without a DFix, of all sorts.
func TestNoFixity(t *testing.T) {
	for _, c := range [][2]string{
		{"f = 1 + 2 `f` 3 `C` 4 :+ 5 + 6", "(M.+ (M.:+ (M.C (M.f (M.+ 1 2) 3) 4) 5) 6)"},
		{"f = 1 `primAdd` 2 `primSub` 3 : 4", "(Prim.: (Prim.primSub (Prim.primAdd 1 2) 3) 4)"},
		{"f = 1 `True` 2 : 3 `False` 4", "(Prim.: (Prim.True 1 2) (Prim.False 3 4))"},
		{"f a b = 1 `a` 2 `b` 3 `a` 4", "(a.1 (b.2 (a.1 1 2) 3) 4)"},
	} {
		if got := bodyOf(t, "module M where\nimport Prim\n(+) = 1\ndata T = C | (:+)\n"+c[0]); got != c[1] {
			t.Errorf("%s: %s, not %s", c[0], got, c[1])
		}
	}
}

// P5.1: an imported operator has the fixity that its own module declares.
func TestImportedFixities(t *testing.T) {
	const a = "module A where\ninfixr 6 +, `g`\ninfixl 3 :+\ninfix 2 ==\n(+) = 1\ng = 2\n(==) = 3\ndata T = (:+)\nclass C c where (!) :: c\ninfixr 8 !\n"
	for _, c := range [][2]string{
		{"f = 1 + 2 + 3 :+ 4 `g` 5 :+ 6 == 7 ! 8 ! 9", "(A.== (A.:+ (A.:+ (A.+ 1 (A.+ 2 3)) (A.g 4 5)) 6) (A.! 7 (A.! 8 9)))"},
		{"(+) = 1\nf = 1 + 2 + 3", "(M.+ (M.+ 1 2) 3)"},
		{"infix 2 +\n(+) = 1\nf = 1 :+ 2 + 3 :+ 4", "(M.+ (A.:+ 1 2) (A.:+ 3 4))"},
		{"infixl 9 -\n(-) = 1\nf = 1 + 2 - 3 + 4", "(A.+ 1 (A.+ (M.- 2 3) 4))"},
	} {
		if got := bodyOf(t, a, "module M where\nimport A\n"+c[0]); got != c[1] {
			t.Errorf("%s: %s, not %s", c[0], got, c[1])
		}
	}
	c := lastClause(t, a, "module M where\nimport A (T)\nf (1 :+ 2 :+ 3) = 4")
	if got, want := briefs(c.Subs[0].Subs), "{A.:+ {A.:+ 1 2} 3}"; got != want {
		t.Errorf("%s, not %s", got, want)
	}
	// Each of two modules has its own fixity of an operator of that name.
	const b = "module B where\nimport A (g)\ninfixl 6 +\n(+) = 1\nh = 1 + 2 + 3 `g` 4"
	if got := bodyOf(t, a, strings.Replace(b, "infixl 6", "infixl 5", 1)); got != "(B.+ (B.+ 1 2) (A.g 3 4))" {
		t.Error(got)
	}
	// The order of the modules that are handed in does not matter.
	if got := bodyOf(t, "module M where\nimport A\nf = 1 + 2 + 3", a); got != "(A.+ 1 (A.+ 2 3))" {
		t.Error(got)
	}
	// The Prelude's operators need no DImport.
	if got := bodyOf(t, api.Prelude, "module Z where\nf = f . f . 1 $ 2 + 3 * 4 == 5 && 6 >>= 7 $ 8"); got !=
		"(Prelude.$ (Prelude.. Z.f (Prelude.. Z.f 1)) (Prelude.$ (Prelude.>>= (Prelude.&& (Prelude.== (Prelude.+ 2 (Prelude.* 3 4)) 5) 6) 7) 8))" {
		t.Error(got)
	}
}

// P5.1: a local binding is another operator than the module's of that name.
func TestLocalOperators(t *testing.T) {
	for _, c := range [][2]string{
		{"f (+) = 1 * 2 + 3 + 4", "(M.* 1 (+.1 (+.1 2 3) 4))"},
		{"f g = 1 `g` 2 `g` 3 `f` 4", "(M.f (g.1 (g.1 1 2) 3) 4)"},
		{"f (*) = 1 * 2 + 3", "(M.+ (*.1 1 2) 3)"},
	} {
		if got := bodyOf(t, "module M where\ninfixr 6 +, `g`\ninfixl 7 *\ninfixl 1 `f`\n(+) = 1\n(*) = 2\ng = 3\n"+c[0]); got != c[1] {
			t.Errorf("%s: %s, not %s", c[0], got, c[1])
		}
	}
	wantSame(t, "module M where\ninfix 4 +\n(+) = 1\nf = let { a + b = a } in 1 + 2 + 3",
		"module M where\n(+) = 1\nf = let { a + b = a } in (+) ((+) 1 2) 3")
	wantSame(t, "module M where\ninfixr 1 `x`\nx = 1\nf x = 1 `x` 2 `x` 3\ng = 1 `x` 2 `x` 3",
		"module M where\nx = 1\nf x = x (x 1 2) 3\ng = x 1 (x 2 3)")
}

// P5.1: the given Prelude.
func TestPrelude(t *testing.T) {
	out := mended(t, tree(t, api.Prelude))
	if len(out) != 1 || out[0].Name != "Prelude" || out[0].Line != 1 || out[0].Col != 1 {
		t.Error(out[0])
	}
}
