package classes_test

import (
	"slices"
	"testing"

	"teasel/api"
	"teasel/classes"
)

// Classes of types, and of constructors with one and with two arguments.
const some = `module M where
class C a where { c :: a }
class D a where { d :: a }
class E a where { e :: a }
class F f where { f :: f a -> f a }
class G g where { g :: g a b -> g a b }
data N = N
data T a b = T a b
data U a b c d = U a b c d
data V f a = V (f a)
`

// P8.1: the instance of a DInst has the class and the constructor, by their
// qualified names, the number of arguments, and what these need.
func TestInstance(t *testing.T) {
	for declaration, want := range map[string]string{
		"instance C N":                          "M.C M.N 0",
		"instance C Int":                        "M.C Prim.Int 0",
		"instance C Bool":                       "M.C Prim.Bool 0",
		"instance C ()":                         "M.C Prim.() 0",
		"instance C [a]":                        "M.C Prim.[] 1",
		"instance C a => C [a]":                 "M.C Prim.[] 1 M.C 0",
		"instance C x => D [x]":                 "M.D Prim.[] 1 M.C 0",
		"instance C (a, b)":                     "M.C Prim.(,) 2",
		"instance C b => C (a, b)":              "M.C Prim.(,) 2 M.C 1",
		"instance (C b, C a) => C (a, b)":       "M.C Prim.(,) 2 M.C 1 M.C 0",
		"instance (C c, D a) => C (a, b, c)":    "M.C Prim.(,,) 3 M.C 2 M.D 0",
		"instance C b => C (a -> b)":            "M.C Prim.-> 2 M.C 1",
		"instance C (IO a)":                     "M.C Prim.IO 1",
		"instance F []":                         "M.F Prim.[] 0",
		"instance F IO":                         "M.F Prim.IO 0",
		"instance G (->)":                       "M.G Prim.-> 0",
		"instance G (,)":                        "M.G Prim.(,) 0",
		"instance C a => F (T a)":               "M.F M.T 1 M.C 0",
		"instance (C b, D a) => G (U a b)":      "M.G M.U 2 M.C 1 M.D 0",
		"instance (C z, D z, E y) => C (T y z)": "M.C M.T 2 M.C 1 M.D 1 M.E 0",
		"instance (F f, C a) => C (V f a)":      "M.C M.V 2 M.F 0 M.C 1",
		"instance F f => F (V f)":               "M.F M.V 1 M.F 0",
		"instance () => C N":                    "M.C M.N 0",
	} {
		wantInsts(t, want, some+declaration)
	}
}

// P8.1: a need is there once, where it is first.
func TestNeedsOnce(t *testing.T) {
	for context, want := range map[string]string{
		"(C a, C a)":                     "M.C 0",
		"(C b, C a, C b)":                "M.C 1 M.C 0",
		"(C a, D a, C a, D a)":           "M.C 0 M.D 0",
		"(D a, C a, C b, D b, C a, D a)": "M.D 0 M.C 0 M.C 1 M.D 1",
		"(E d, E c, E b, E a, E c)":      "M.E 3 M.E 2 M.E 1 M.E 0",
		"(C a, D a)":                     "M.C 0 M.D 0",
	} {
		wantInsts(t, "M.C M.U 4 "+want, some+"instance "+context+" => C (U a b c d)")
	}
}

// P8.1: instances come module by module in the order in which each one's
// imports are ahead of it, then in the order of the tree.
func TestOrder(t *testing.T) {
	texts := []string{
		"module Z where\ninstance C [a]\nclass C a where { c :: a }\ninstance C Int\n",
		"module B where\nimport Z\nimport A\ninstance C T\ninstance D T\nf = 1\ninstance D Int",
		"module A where\nimport Z\nclass D a where { d :: a }\ninstance C a => D (a, b)\ninstance C Bool\ndata T = T\ninstance D ()\n",
	}
	want := "Z.C Prim.[] 1; Z.C Prim.Int 0; " +
		"A.D Prim.(,) 2 Z.C 0; Z.C Prim.Bool 0; A.D Prim.() 0; " +
		"Z.C A.T 0; A.D A.T 0; A.D Prim.Int 0"
	for _, order := range [][3]int{{0, 1, 2}, {0, 2, 1}, {1, 0, 2}, {1, 2, 0}, {2, 0, 1}, {2, 1, 0}} {
		wantInsts(t, want, texts[order[0]], texts[order[1]], texts[order[2]])
	}
}

// P8.1: modules without instances, and no modules.
func TestNoInstances(t *testing.T) {
	wantInsts(t, "")
	wantInsts(t, "", "module M where\n")
	wantInsts(t, "", some)
	wantInsts(t, "M.C M.N 0", some+"instance C N", "module L where\n", "module N where\n")
}

// The chapter's example, and all other instances of the Prelude.
func TestPrelude(t *testing.T) {
	wantInsts(t, "Prelude.Eq Prim.Int 0; Prelude.Eq Prim.Bool 0; Prelude.Eq Prim.() 0; "+
		"Prelude.Eq Prim.[] 1 Prelude.Eq 0; Prelude.Eq Prim.(,) 2 Prelude.Eq 0 Prelude.Eq 1; "+
		"Prelude.Eq Prelude.Maybe 1 Prelude.Eq 0; "+
		"Prelude.Ord Prim.Int 0; Prelude.Ord Prim.[] 1 Prelude.Ord 0; "+
		"Prelude.Show Prim.Int 0; Prelude.Show Prim.Bool 0; Prelude.Show Prim.[] 1 Prelude.Show 0; "+
		"Prelude.Show Prim.(,) 2 Prelude.Show 0 Prelude.Show 1; Prelude.Show Prelude.Maybe 1 Prelude.Show 0; "+
		"Prelude.Functor Prim.[] 0; Prelude.Functor Prelude.Maybe 0; Prelude.Functor Prim.IO 0; "+
		"Prelude.Monad Prim.IO 0; Prelude.Monad Prelude.Maybe 0; Prelude.Monad Prim.[] 0", api.Prelude)
	prelude := "module Prelude where\nclass Eq a where { eq :: a -> a }\n"
	wantInsts(t, "Prelude.Eq Prim.(,) 2 Prelude.Eq 1 Prelude.Eq 0", prelude+"instance (Eq b, Eq a) => Eq (a, b)\n")
	wantInsts(t, "Prelude.Eq M.T 2 Prelude.Eq 1",
		"module M where\ndata T a b = T\ninstance Eq b => Eq (T a b)\n", prelude)
}

// Classes and constructors of the same name, of different modules, are not the
// same; and one class has instances of many constructors, one constructor of
// many classes.
func TestNoOverlap(t *testing.T) {
	texts := []string{
		"module A where\nclass C a where { c :: a }\ndata T = T\ninstance C T\ninstance C Int\n",
		"module B where\nclass C a where { c :: a }\ndata T = T\ninstance C T\ninstance C Int\n",
		"module D where\nimport A (C)\nimport B (T)\ninstance C T\n",
	}
	wantInsts(t, "A.C A.T 0; A.C Prim.Int 0; B.C B.T 0; B.C Prim.Int 0; A.C B.T 0", texts...)
	wantInsts(t, "M.C Prim.(,) 2; M.C Prim.(,,) 3; M.C Prim.() 0; M.D Prim.(,) 2; M.C Prim.[] 1; M.F Prim.[] 0; M.C Prim.-> 2; M.G Prim.-> 0",
		some+"instance C (a, b)\ninstance C (a, b, c)\ninstance C ()\ninstance D (a, b)\ninstance C [a]\ninstance F []\ninstance C (a -> b)\ninstance G (->)\n")
}

// P8.1: a second instance of the same class and constructor, in the same
// module.
func TestOverlap(t *testing.T) {
	for _, declarations := range []string{
		"instance C N\n§instance C N",
		"instance C [a]\n§instance C [b]",
		"instance C [a]\ninstance D [a]\n§instance C a => C [a]\ninstance C Int",
		"instance C (a, b)\ninstance C (a, b, c)\n§instance (C a, C b) => C (a, b)",
		"instance C (a -> b)\n§instance C b => C (a -> b)",
		"instance G (->)\ninstance C (a -> b)\n§instance G (->)",
		"instance F []\n§instance F []",
		"instance F (T a)\ninstance C (T a b)\n§instance F (T b)\n",
		"instance C N\ninstance C Int\n§instance C Int\ninstance C N",
		"instance C N\ninstance C Int\n§instance C N\ninstance C Int",
		"instance C N\n§instance C N\ninstance C N",
		"x y = y\n  where\n    z = y\ninstance C N\n\n  ;  §instance C N",
	} {
		wantWrong(t, api.ErrOverlap, some+declarations)
	}
}

// P8.1: a second one in another module; the Diag is at the first in the order
// of modules, not in that in which they were handed in.
func TestOverlapElsewhere(t *testing.T) {
	a := "module A where\nclass C a where { c :: a }\ndata T = T\ninstance C Int\n"
	wantWrong(t, api.ErrOverlap, a, "module B where\nimport A\ninstance C T\n§instance C Int\n")
	wantWrong(t, api.ErrOverlap, "module B where\nimport A\ninstance C T\n§instance C Int\n", a)
	// B and D do not import each other: B is ahead by its Name.
	b := "module B where\nimport A\ninstance C T\n"
	d := "module D where\nimport A\n§instance C T\n"
	for _, texts := range [][]string{{a, b, d}, {d, b, a}, {b, d, a}, {d, a, b}} {
		wantWrong(t, api.ErrOverlap, texts...)
	}
	// But if B imports D, it comes later.
	wantWrong(t, api.ErrOverlap, a, "module B where\nimport A\nimport D\n§instance C T\n",
		"module D where\nimport A\ninstance C T\n")
	// The first module that has an error has the Diag.
	wantWrong(t, api.ErrOverlap, a, "module B where\nimport A\ninstance C T\n§instance C T\n",
		"module D where\nimport A\ninstance C T\ninstance C Int\n")
	// An instance that is in none of a module's imports is an earlier one too.
	wantWrong(t, api.ErrOverlap, "module K where\nclass K a where { k :: a }\n",
		"module L where\nimport K\ninstance K Int\n", "module M where\nimport K\n§instance K Int\n")
	wantWrong(t, api.ErrOverlap, api.Prelude, "module M where\n§instance Monad Maybe\n")
}

// P8.1: a Diag of kinds.Kinds comes first, wherever it is, and so do those of
// the layers below.
func TestKindsFirst(t *testing.T) {
	twice := "instance C N\ninstance C N\n"
	wantWrong(t, api.ErrKind, some+twice+"§instance C IO\n")
	wantWrong(t, api.ErrKind, some+twice+"§data W f = W (f f)\n")
	wantWrong(t, api.ErrKind, some+twice+"§instance F N\n")
	wantWrong(t, api.ErrKind, some+"instance C N\n§instance C (N a)\n")
	wantWrong(t, api.ErrUnknown, some+twice+"x = §unknown\n")
	wantWrong(t, api.ErrUnknown, some+twice+"§instance Z N\n")
	wantWrong(t, api.ErrMix, some+twice+"x a b = a\ninfix 4 `x`\ny a b = a `x` b §`x` a\n")
	wantWrong(t, api.ErrKind, some+twice, "module Z where\n§data W f = W (f f)\n")
	wantWrong(t, api.ErrModule, "module A where\n", "§module A where\n")
	wantWrong(t, api.ErrImport, some+twice, "module Z where\n§import Y\n")
	insts, d := classes.Insts(api.Node{})
	if len(insts) != 0 || d != (api.Diag{Number: api.ErrTree}) {
		t.Error(insts, d)
	}
}

// The functions, contexts and other declarations around it do not change what
// an instance is; positions count nothing.
func TestAround(t *testing.T) {
	texts := []string{
		"module Prelude where { class C a where { c :: a }; instance C Int where { c = 1 } }",
		"module Prelude where\n\n\n   instance C Int where\n     c = d\n       where d = 2\n   class C a where\n     c :: a\n   f = c\n",
	}
	for _, text := range texts {
		wantInsts(t, "Prelude.C Prim.Int 0", text)
	}
	mods := trees(t, texts[0])
	mods = append(mods, mods[0])
	mods[1].Name = "Other"
	mods[1].Subs = slices.Clone(mods[1].Subs)
	got, d := classes.Insts(mods...)
	if want := "Prelude.C Prim.Int 0; Other.C Prim.Int 0"; sayInsts(got) != want || d != (api.Diag{}) {
		t.Error(sayInsts(got), d)
	}
}
