package desugar_test

import (
	"reflect"
	"testing"

	"teasel/api"
	"teasel/desugar"
)

// wantWrong is for a Diag, and nothing else.
func wantWrong(t *testing.T, want api.Diag, texts ...string) {
	t.Helper()
	p, d := desugar.Front(files(texts...))
	if d != want || !reflect.DeepEqual(p, api.Program{}) {
		t.Errorf("%q: got %+v with %d binds, want %+v", texts, d, len(p.Binds), want)
	}
}

func errMain(line, col int) api.Diag {
	return api.Diag{File: "Main", Line: line, Col: col, Number: api.ErrMain}
}

// There is a main that can be run, of each sort of declaration, with a type that
// has variables and preds.
func TestMain(t *testing.T) {
	for _, c := range []struct {
		declarations string
		want         api.Outcome
	}{
		{"import Prim\nmain = primReturn 1", done(1)},
		{"main | 1 < 2 = getByte", done(-1)},
		{"main = error", failed},
		{"main = main", endless},
		{"main = f 1\nf x = main\n", endless},
		{"main = return 2", done(2)},
		{"main = m\nm = return 3", done(3)},
		{"main = return x where { x = 4 }", done(4)},
		{"main = id (return 5)", done(5)},
		{"main = fmap (+ 1) (return 5)", done(6)},
		{"main = c\nclass C a where { c :: a }\ninstance C Int where { c = 1 }\ninstance C a => C (IO a) where { c = fmap (\\x -> x) (return c) }", done(1)},
		{"main = return z\nclass Z a where { z :: a }\ninstance Z Int where { z = 8 }", done(8)},
		{"main = c 9\nclass C f where { c :: a -> f a }\ninstance C IO where { c x = return x }", done(9)},
		// DPat
		{"(main, x) = (putByte 65 >>= \\y -> return 2, 3)", api.Outcome{Out: "A", End: api.Done, Code: 2}},
		{"[main, _] = [getByte, return 3]", done(-1)},
		{"Just main = Nothing", failed},
		{"main@_ = getByte", done(-1)},
		{"(x, main@y) = (1, if x == 1 then error else y)", failed},
		// DMethod
		{"class C a where { main :: a }\ninstance C (IO a) where { main = error }", failed},
		{"class C a where { main :: a }\ninstance D a => C (IO a) where { main = return d }\nclass D a where { d :: a }\ninstance D Int where { d = 6 }", done(6)},
		{"class C f where { x :: Int -> f Int; main :: f Int }\ninstance C IO where { main = x 3 ; x a = return a }", done(3)},
		{"class C f where { main :: f a }\ninstance C IO where { main = return error }", failed},
	} {
		wantRun(t, "", c.want, c.declarations)
	}
}

// main's scheme cannot be instantiated to an IO of an Int, or its preds do not
// hold then: at its declaration.
func TestErrMain(t *testing.T) {
	for _, c := range []struct {
		want         api.Diag
		declarations string
	}{
		{errMain(2, 1), "main = 1"},
		{errMain(2, 1), "main = return True"},
		{errMain(2, 1), "main = [1]"},
		{errMain(2, 1), "main x = return 1"},
		{errMain(2, 1), "main = putByte 1"},
		{errMain(2, 1), "main = \"text\""},
		{errMain(2, 1), "main = Just 1"},
		{errMain(2, 1), "main = id"},
		{errMain(3, 1), "f = 1\nmain = f\nmain2 = 3"},
		{errMain(3, 1), "\nmain 1 = return 1\nmain 2 = return 1"},
		{errMain(2, 1), "x `main` y = return 1"},
		// preds that do not hold
		{errMain(2, 1), "main = c\nclass C a where { c :: a }\ninstance C Int where { c = 1 }"},
		{errMain(2, 1), "main = c\nclass C a where { c :: a }\ninstance D a => C (IO a) where { c = error }\nclass D a where { d :: a }\ninstance D Bool where { d = True }"},
		{errMain(2, 1), "main = c 9\nclass C f where { c :: a -> f a }\ninstance C [] where { c x = [x] }"},
		// DPat
		{errMain(2, 1), "(main, x) = (1, 2)"},
		{errMain(3, 2), "\n (x, [main]) = (1, [getByte >>= \\c -> return True])"},
		{errMain(2, 1), "Just main = Just id"},
		// DMethod
		{errMain(2, 19), "class C a where { main :: a }"},
		{errMain(2, 19), "class C a where { main :: a }\ninstance C Int where { main = 1 }"},
		{errMain(2, 29), "class C a where { x :: a ;  main :: a -> IO Int }"},
		{errMain(2, 19), "class C f where { main :: f Bool }\ninstance C IO where { main = return True }"},
		{errMain(3, 3), "class C f where\n  main :: [f Int]\ninstance C IO"},
		// DField
		{errMain(2, 14), "data T = C { main :: IO Int }"},
		{errMain(2, 34), "data T = A | B Int | C { x :: T, main :: T }"},
		// no own main
		{errMain(1, 1), "main2 = 1"},
		{errMain(1, 1), ""},
		{errMain(1, 1), "f main = 1"},
		{errMain(1, 1), "f = main where main = return 1"},
		{errMain(1, 1), "data Main = Main"},
	} {
		wantWrong(t, c.want, c.declarations)
	}
	// an imported one is none, and no module is
	wantWrong(t, errMain(1, 1), "module A where\nmain = return 1", "import A")
	_, d := desugar.Front([]api.File{{Name: "a", Text: "module A where\nmain = return 1"}, {Name: "b", Text: "\n\n  module Main where { import A (main) ; x = main }"}})
	if d != errMain(3, 3) {
		t.Error(d)
	}
	wantWrong(t, api.Diag{Number: api.ErrMain}, "module A where\nmain = return 1")
	wantWrong(t, api.Diag{Number: api.ErrMain})
	if p, d := desugar.Core(); d != (api.Diag{Number: api.ErrMain}) || len(p.Binds) > 0 {
		t.Error(d)
	}
	// what a class of another module has is no own value
	wantWrong(t, errMain(1, 1), "module A where\nclass C a where { main :: a }", "import A\ninstance C (IO a) where { main = error }")
}
