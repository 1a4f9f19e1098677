package desugar_test

import (
	"slices"
	"testing"

	"teasel/api"
)

// constructor is the one of a program that has a name.
func constructor(t *testing.T, p api.Program, name string) api.Cons {
	t.Helper()
	i := slices.IndexFunc(p.Cons, func(c api.Cons) bool { return c.Name == name })
	if i < 0 {
		t.Fatalf("no constructor %s", name)
	}
	return p.Cons[i]
}

// Tags, Families and Arities of Prim's constructors and of several DDatas.
func TestConstructors(t *testing.T) {
	p := program(t, "module A where\ndata T a = A | B a a | C { x :: Int, y :: T a, z :: a } | (:+) a Int\ndata E\ndata One = One\n", "import A\ndata T = A T | Z\nmain = return 1")
	for _, want := range []api.Cons{
		{Name: "Prim.False", Arity: 0, Tag: 0, Family: 2},
		{Name: "Prim.True", Arity: 0, Tag: 1, Family: 2},
		{Name: "Prim.()", Arity: 0, Tag: 0, Family: 1},
		{Name: "Prim.(,)", Arity: 2, Tag: 0, Family: 1},
		{Name: "Prim.(,,)", Arity: 3, Tag: 0, Family: 1},
		{Name: "Prim.[]", Arity: 0, Tag: 0, Family: 2},
		{Name: "Prim.:", Arity: 2, Tag: 1, Family: 2},
		{Name: "Prim.Box", Arity: 1, Tag: 0, Family: 1},
		{Name: "Prelude.Nothing", Arity: 0, Tag: 0, Family: 2},
		{Name: "Prelude.Just", Arity: 1, Tag: 1, Family: 2},
		{Name: "Prelude.Left", Arity: 1, Tag: 0, Family: 2},
		{Name: "Prelude.Right", Arity: 1, Tag: 1, Family: 2},
		{Name: "A.A", Arity: 0, Tag: 0, Family: 4},
		{Name: "A.B", Arity: 2, Tag: 1, Family: 4},
		{Name: "A.C", Arity: 3, Tag: 2, Family: 4},
		{Name: "A.:+", Arity: 2, Tag: 3, Family: 4},
		{Name: "A.One", Arity: 0, Tag: 0, Family: 1},
		{Name: "Main.A", Arity: 1, Tag: 0, Family: 2},
		{Name: "Main.Z", Arity: 0, Tag: 1, Family: 2},
	} {
		if got := constructor(t, p, want.Name); got != want {
			t.Errorf("got %+v, want %+v", got, want)
		}
	}
	// and one for each class of the Prelude: its dictionaries
	if len(p.Cons) != 19+5 {
		t.Errorf("%d constructors: %+v", len(p.Cons), p.Cons)
	}
}

// A constructor of a class's dictionaries may have no other one's name: here are a
// class, a type, a constructor and a value that are called alike.
func TestNamesOfSorts(t *testing.T) {
	wantNumber(t, 6, "c (C (C2 2)) + d", "class C a where { c :: a -> Int }", "data D = C E | D", "data E = C2 Int", "instance C D where { c (C (C2 x)) = x + one D }", "one D = 1", "d = case (C, D) of { (f, g) -> one g + 2 }")
	// names of locals in several modules, of operators, and of main within others
	wantRun(t, "", done(40), "module A where\nf x = g x where g y = x + y\nx <+> y = let z = x + y in z + z\n", "module B where\nf x = g x where g y = x * y\n(.+.) = h where { x `h` y = x ... y; x ... y = x - y }", "import A\nimport B (f, (.+.))\nmain = return (f2 2 + (3 <+> 4) + (8 .+. 4) + main1)\nf2 = f3 where f3 x = f4 x where f4 x = (\\x -> x + x) x\nmain1 = let main = 18 in main", "module C where\nmain = 5\nf = main")
}

// main may be used by others, and use itself.
func TestMainIsUsed(t *testing.T) {
	wantRun(t, "abc", api.Outcome{Out: "abc", End: api.Done, Code: 3}, "main = getByte >>= \\c -> if c < 0 then return 0 else putByte c >> main >>= \\n -> return (n + 1)")
	wantRun(t, "", done(12), "main = f 1\nf 1 = fmap (+ 10) (f 0)\nf 0 = main2\nmain2 = return 2")
	// with dictionaries, also for others
	wantRun(t, "", done(5), "main = return (sum main2 + one)\nmain2 = [2, 2]\none = sum [1]")
	wantRun(t, "", done(7), "main = do { x <- one; return (x + 2) }\none = if True then return five else main\nfive = 5")
	wantRun(t, "", done(5), "main = return 5\nother = case main of { Just x -> x; _ -> 7 }")
	wantRun(t, "", done(9), "class C f where { main :: f Int }\ninstance C IO where { main = return (case main of { Just x -> x + one; _ -> 7 }) }\ninstance C Maybe where { main = Just 8 }\none = head main\ninstance C [] where { main = [1] }")
}
