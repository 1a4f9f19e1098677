package names_test

import (
	"strings"
	"testing"

	"teasel/api"
)

// P4.1: the names that the grammar makes, and the colon, are Prim's anywhere.
func TestMadeNames(t *testing.T) {
	for _, c := range [][2]string{
		{"f () (,) (,,) (:) = () (,) (,,) (:)", "A.f Prim.() Prim.(,) Prim.(,,) Prim.: Prim.() Prim.(,) Prim.(,,) Prim.:"},
		{"f (x : y) = x : y", "A.f x.1 Prim.: y.2 x.1 Prim.: y.2"},
		{"f x = (x :)\ng x = (: x)", "A.f x.1 x.1 Prim.: A.g x.2 Prim.: x.2"},
		{"f = (:) { }\ng = () { }\nh (() { }) ((:) { }) ((,) { }) = (,,) { }",
			"A.f Prim.: A.g Prim.() A.h Prim.() Prim.: Prim.(,) Prim.(,,)"},
		{"data T a = C () [] (,) (,,) (->) [a] (a, a) (a, a, a) (a -> a)",
			"A.T a A.C Prim.() Prim.[] Prim.(,) Prim.(,,) Prim.-> Prim.[] a Prim.(,) a a Prim.(,,) a a a Prim.-> a a"},
		{"class K k\ninstance K ()\ninstance K []\ninstance K (a, b)\ninstance K (a -> b)",
			"A.K k A.K Prim.() A.K Prim.[] A.K Prim.(,) a b A.K Prim.-> a b"},
	} {
		wantIn(t, c[0], c[1])
	}
	wantLast(t, "A.f Prim.:", "module Prelude where\ndata T = (:+)", "module A where\nimport Prim ()\nimport Prelude ()\nf = (:)")
}

// P4.1: the types of Prim, with their constructors, are always there, its
// values only if they are imported.
func TestPrim(t *testing.T) {
	wantIn(t, "data T = T Int Bool (IO Int)\nf True = False", "A.T A.T Prim.Int Prim.Bool Prim.IO Prim.Int A.f Prim.True Prim.False")
	wantIn(t, "import Prim ()\nf True = False", "A.f Prim.True Prim.False")
	values := strings.Fields("primAdd primSub primMul primQuot primRem primEq primLt primLe primGet primPut primReturn primBind primSeq primRaise")
	wantIn(t, "import Prim\nf = ["+strings.Join(values, ", ")+"]", "A.f Prim."+strings.Join(values, " Prim."))
	for _, v := range values {
		wantIn(t, "import Prim ("+v+")\nf = "+v, "A.f Prim."+v)
		wantWrong(t, api.ErrUnknown, "module A where\nf = §"+v)
		wantWrong(t, api.ErrUnknown, "module A where\nimport Prim ()\nf = §"+v)
	}
	for _, name := range []string{"Int", "Bool", "IO"} {
		wantIn(t, "import Prim ("+name+")\ndata T = T "+name, "A.T A.T Prim."+name)
	}
	for _, name := range []string{"False", "True", "Prim", "Box", "f", "prim", "primNext"} {
		wantWrong(t, api.ErrImport, "module A where\nimport Prim (primAdd, §"+name+")")
	}
	wantWrong(t, api.ErrImport, "module A where\nimport Prim (§(+))")
}

// P4.1: an own entity goes ahead of one that is imported.
func TestOwnFirst(t *testing.T) {
	other := "module B where\nf = f\ng = g\ndata T = C\ndata U = D\nclass K k"
	wantLast(t, "C.f C.f B.g", other, "module C where\nimport B\nf = f g")
	wantLast(t, "C.V C.C B.T C.h C.C B.D", other, "module C where\nimport B\ndata V = C T\nh = C D")
	wantLast(t, "C.T C.E C.T B.U C.h B.C", other, "module C where\nimport B\ndata T = E T U\nh = C")
	wantLast(t, "C.K k C.K B.T", other, "module C where\nimport B\nclass K k\ninstance K T")
}

// P4.1: what modules export, and what their imports bring into scope.
func TestImports(t *testing.T) {
	exporting := func(exports string) string {
		return "module B " + exports + " where\nf = 1\ng = 2\n(+) = 3\ndata T a = C { l :: a } | D\ndata U = E\nclass K k where m :: k\n(p, q) = 4"
	}
	for _, c := range []struct{ exports, imports, text, want string }{
		{"", "", "h = f g (+) l m p q C D E", "A.h B.f B.g B.+ B.l B.m B.p B.q B.C B.D B.E"},
		{"", "", "data V = V (T U)\ninstance K U", "A.V A.V B.T B.U B.K B.U"},
		{"", "(f, (+), l, p)", "h = f + l p", "A.h B.f B.+ B.l B.p"},
		{"", "(T)", "h x = x { l = C { l = D } }", "A.h x.1 x.1 B.l B.C B.l B.D"},
		{"", "(K)", "instance K Int where m = m", "B.K Prim.Int B.m B.m"},
		{"", "(K, K, m, m)", "h = m", "A.h B.m"},
		{"", "(T, l)", "h = l", "A.h B.l"},
		{"", "()", "", "A"},
		{"(f, T, m)", "", "h = f C D l m", "A.h B.f B.C B.D B.l B.m"},
		{"(f, T, m)", "(f, T, m)", "h = f C D l m", "A.h B.f B.C B.D B.l B.m"},
		{"(f, T, m)", "(l)", "h = l", "A.h B.l"},
		{"(l)", "(l)", "h x = x { l = l }", "A.h x.1 x.1 B.l B.l"},
		{"(l, T, l, T)", "(T)", "h = C { l = D }", "A.h B.C B.l B.D"},
		{"((+), f)", "", "h = f + f", "A.h B.f B.+ B.f"},
		{"(K)", "", "h = m\ninstance K Int where m = 1", "A.h B.m B.K Prim.Int B.m"},
		{"(p)", "", "h = p", "A.h B.p"},
		{"()", "", "", "A"},
	} {
		importing := "module A where\nimport B " + c.imports + "\n" + c.text
		wantLast(t, c.want, exporting(c.exports), importing)
	}
}

// P4.2: what is not exported, or not imported, is not there.
func TestNotBrought(t *testing.T) {
	exporting := func(exports string) string {
		return "module B " + exports + " where\nf = 1\ng = 2\ndata T a = C { l :: a } | D\ndata U = E\nclass K k where m :: k"
	}
	for _, c := range []struct{ exports, imports, text string }{
		{"(f)", "", "h = §g"},
		{"(f)", "", "h = §C"},
		{"(f)", "", "data V = V §T"},
		{"(m)", "", "§instance K Int"},
		{"(l)", "", "h = §D"},
		{"(T)", "", "h = §E"},
		{"(T)", "", "data V = V §U"},
		{"()", "", "h = §f"},
		{"", "()", "h = §f"},
		{"", "(f)", "h = §g"},
		{"", "(l)", "h = §C"},
		{"", "(l)", "data V = V §T"},
		{"", "(m)", "§instance K Int"},
		{"", "(T)", "h = §E"},
		{"(f, T)", "(f)", "h = §l"},
	} {
		wantWrong(t, api.ErrUnknown, exporting(c.exports), "module A where\nimport B "+c.imports+"\n"+c.text)
	}
}

// P4.1: what a module imports it does not export.
func TestNotPassedOn(t *testing.T) {
	first, second := "module B where\nf = 1\ndata T = C", "module C where\nimport B\ng = f"
	wantWrong(t, api.ErrUnknown, first, second, "module D where\nimport C\nh = §f")
	wantWrong(t, api.ErrUnknown, first, second, "module D where\nimport C\nh = §C")
	wantWrong(t, api.ErrImport, first, second, "module D where\nimport C (§f)")
	wantWrong(t, api.ErrExport, first, "module C (§f) where\nimport B\ng = f")
	wantWrong(t, api.ErrExport, first, "module C (g, §T) where\nimport B\ng = f")
}

// P4.1 and P4.2: one entity that several imports bring is one; several
// entities are ErrMany, but only where they are named.
func TestSeveral(t *testing.T) {
	m, n := "module M where\nh = 1\ndata T = C\nclass K k where m :: k\ndata R = R { l :: R }", "module N where\nh = 2\ndata T = C\nclass K k where m :: k\ndata S = S { l :: S }"
	wantLast(t, "Z.k M.h", m, "module Z where\nimport M\nimport M (h)\nimport M ()\nimport M\nk = h")
	wantLast(t, "Z.k Z.k", m, n, "module Z where\nimport M\nimport N\nk = k")
	wantLast(t, "Z.h Z.k Z.h", m, n, "module Z where\nimport M\nimport N\nh = 3\nk = h")
	wantLast(t, "Z.k h.1 h.1 h.2 h.2", m, n, "module Z where\nimport M\nimport N\nk h = h (\\h -> h)")
	wantLast(t, "Z.k N.h", m, n, "module Z where\nimport M (T)\nimport N\nk = h")
	wantLast(t, "Z.k M.h", m, n, "module Z where\nimport N (K)\nimport M\nk = h")
	wantLast(t, "Z.k M.R M.l x.1 M.R M.l x.1", m, n, "module Z where\nimport N\nimport M\nk (R { l = x }) = R { l = x }")
	for _, text := range []string{
		"k = §h", "k = 1 §`h` 2", "k = §C", "k §C = 1", "k (1 §`C` 2) = 1", "k = §C { }", "k (§C { }) = 1", "data D = D §T",
		"§instance K Int", "data D d\ninstance §K d => R (D d)\nclass R r", "instance R §T\nclass R r", "k x = x { §l = 1 }", "k = (1 §`h`)", "k = (§`h` 1)",
		"class D d where x :: §T -> d", "k l x = x { §l = 1 }",
	} {
		wantWrong(t, api.ErrMany, m, n, "module Z where\nimport M\nimport N\n"+text)
	}
	wantWrong(t, api.ErrMany, "module M where\ndata Bool = True", "module Z where\nimport M\nk = §True")
	wantWrong(t, api.ErrMany, "module M where\ndata Int", "module Z where\nimport M\ndata T = T §Int")
	wantWrong(t, api.ErrMany, "module M where\nprimAdd = 1", "module Z where\nimport Prim\nimport M\nk = §primAdd")
	wantWrong(t, api.ErrMany, "module M where\ndata T", "module N where\nclass T t", "module Z where\nimport N\nimport M\ndata D = D §T")
	wantWrong(t, api.ErrMany, "module M where\ndata T", "module N where\nclass T t", "module Z where\nimport N\nimport M\n§instance T Int")
}

// P4.1: all modules but the Prelude import it, if it is there, unless they
// have an import of it.
func TestPrelude(t *testing.T) {
	prelude := "module Prelude (f, T) where\nf = g\ng = f\ndata T = C"
	wantNames(t, []string{"module A where\nh = f C", prelude}, "Prelude Prelude.f Prelude.g Prelude.g Prelude.f Prelude.T Prelude.C", "A A.h Prelude.f Prelude.C")
	wantLast(t, "A.h Prelude.f", prelude, "module A where\nimport Prelude\nh = f")
	wantLast(t, "A.h Prelude.f", prelude, "module A where\nimport Prelude (f)\nh = f")
	wantLast(t, "B.h Prelude.f A.k", prelude, "module A where\nk = 1", "module B where\nimport A\nh = f k")
	wantWrong(t, api.ErrUnknown, prelude, "module A where\nh = §g")
	wantWrong(t, api.ErrUnknown, prelude, "module A where\nimport Prelude (f)\nh = f §C")
	wantWrong(t, api.ErrUnknown, prelude, "module A where\nimport Prelude ()\nh = §f")
	wantWrong(t, api.ErrUnknown, "module A where\nh = §f")
	wantWrong(t, api.ErrMany, prelude, "module A where\nf = 1", "module B where\nimport A\nh = §f")
	wantWrong(t, api.ErrImport, "module A where\n§import Prelude")
}

// P4.1: the given Prelude, by some of its names.
func TestGivenPrelude(t *testing.T) {
	out := resolved(t, tree(t, api.Prelude), tree(t, "module Main where\nmain = do { x <- getByte; putBytes (show x) }"))
	want := "Main Main.main x.1 Prelude.getByte Prelude.putBytes Prelude.show x.1"
	if got := namesIn(out[1]); got != want {
		t.Error(got)
	}
	text := namesIn(out[0])
	for _, part := range []string{
		"infixr Prelude.. infixl Prelude.* infixl Prelude.+ Prelude.- infixr Prelude.++",
		"Prelude.Maybe a Prelude.Nothing Prelude.Just a",
		"Prelude.Monad m Prelude.return Prim.-> a m a Prelude.>>= Prim.-> m a Prim.-> Prim.-> a m b m b",
		"Prelude.Eq Prim.Int Prelude.== Prim.primEq",
		"Prelude.Functor Prim.IO Prelude.fmap f.34 m.35 Prim.primBind m.35 x.36 Prim.primReturn f.34 x.36",
	} {
		if !strings.Contains(text, part) {
			t.Errorf("%q is not in %s", part, text)
		}
	}
}
