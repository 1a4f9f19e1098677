package parse_test

import (
	"strconv"
	"testing"
)

func itoa(n int) string { return strconv.Itoa(n) }

// wantPlaces holds that the declarations of a module, whose first line is
// line 2, have these trees and positions.
func wantPlaces(t *testing.T, text, want string) {
	t.Helper()
	n := tree(t, header+text)
	s := ""
	for i, d := range n.Subs[2].Subs {
		if i > 0 {
			s += "; "
		}
		s += sayPlaces(d)
	}
	if s != want {
		t.Errorf("%q:\ngot  %s\nwant %s", text, s, want)
	}
}

// wantExpPlaces holds that an expression behind "f =" has these positions.
func wantExpPlaces(t *testing.T, text, want string) {
	t.Helper()
	wantPlaces(t, "f = "+text, "DFun f@2.1(DClause@2.1(List, DRhs@2.3(List(DGuard@2.3(None, "+want+")), List)))")
}

// P3.1: the positions of modules, items and imports.
func TestPlacesOfModules(t *testing.T) {
	n := tree(t, "\n module M (f,\n  (+), T) where\nimport A\nimport B (g)\nf = 1")
	want := "DMod M@2.2(List(DItem f@2.12, DItem +@3.3, DItem T@3.8), List(DImport A@4.1(None), DImport B@5.1(List(DItem g@5.11))), List(DFun f@6.1(DClause@6.1(List, DRhs@6.3(List(DGuard@6.3(None, EInt 1@6.5)), List)))))"
	if got := sayPlaces(n); got != want {
		t.Errorf("got  %s\nwant %s", got, want)
	}
}

// P3.1: the positions of declarations.
func TestPlacesOfDeclarations(t *testing.T) {
	wantPlaces(t, "data T a = N | (:+) a | C { l :: a, (#) :: B }",
		"DData T@2.1(List(TVar a@2.8), List(DCon N@2.12(List), DCon :+@2.16(List(TVar a@2.21)), DCon C@2.25(List(DField l@2.29(TVar a@2.34), DField #@2.37(TCon B@2.44)))))")
	wantPlaces(t, "class C a where\n m :: a\n (+) :: a",
		"DClass C@2.1(TVar a@2.9, List(DMethod m@3.2(TVar a@3.7), DMethod +@4.2(TVar a@4.9)))")
	wantPlaces(t, "instance (A a, B b) => C [a] where f = x",
		"DInst C@2.1(List(DPred A@2.11(TVar a@2.13), DPred B@2.16(TVar b@2.18)), TApp@2.26(TCon []@2.26, TVar a@2.27), List(DFun f@2.36(DClause@2.36(List, DRhs@2.38(List(DGuard@2.38(None, EVar x@2.40)), List)))))")
	wantPlaces(t, "instance A a => C D", "DInst C@2.1(List(DPred A@2.10(TVar a@2.12)), TCon D@2.19, List)")
	wantPlaces(t, "infixl 6 +, `f`, :", "DFix infixl 6@2.1(List(EOp +@2.10, EOp f@2.13, EOp : 1@2.18))")
}

// P3.1: the positions of the types of instances.
func TestPlacesOfHeads(t *testing.T) {
	for _, c := range [][2]string{
		{"D", "TCon D@2.12"},
		{"(D)", "TCon D@2.13"},
		{"(D a b)", "TApp@2.13(TApp@2.13(TCon D@2.13, TVar a@2.15), TVar b@2.17)"},
		{"[]", "TCon []@2.12"},
		{"[a]", "TApp@2.12(TCon []@2.12, TVar a@2.13)"},
		{"()", "TCon ()@2.12"},
		{"(,)", "TCon (,)@2.12"},
		{"(,,)", "TCon (,,)@2.12"},
		{"(->)", "TCon ->@2.12"},
		{"(a, b)", "TApp@2.12(TApp@2.12(TCon (,)@2.12, TVar a@2.13), TVar b@2.16)"},
		{"(a, b, c)", "TApp@2.12(TApp@2.12(TApp@2.12(TCon (,,)@2.12, TVar a@2.13), TVar b@2.16), TVar c@2.19)"},
		{"(a -> b)", "TApp@2.13(TApp@2.13(TCon ->@2.15, TVar a@2.13), TVar b@2.18)"},
	} {
		wantPlaces(t, "instance C "+c[0], "DInst C@2.1(List, "+c[1]+", List)")
	}
}

// P3.1: the positions of types.
func TestPlacesOfTypes(t *testing.T) {
	for _, c := range [][2]string{
		{"a", "TVar a@3.7"},
		{"((a))", "TVar a@3.9"},
		{"A b c", "TApp@3.7(TApp@3.7(TCon A@3.7, TVar b@3.9), TVar c@3.11)"},
		{"((A) b) (c d)", "TApp@3.9(TApp@3.9(TCon A@3.9, TVar b@3.12), TApp@3.16(TVar c@3.16, TVar d@3.18))"},
		{"a -> b -> c", "TApp@3.7(TApp@3.7(TCon ->@3.9, TVar a@3.7), TApp@3.12(TApp@3.12(TCon ->@3.14, TVar b@3.12), TVar c@3.17))"},
		{"(a -> b) -> c", "TApp@3.8(TApp@3.8(TCon ->@3.16, TApp@3.8(TApp@3.8(TCon ->@3.10, TVar a@3.8), TVar b@3.13)), TVar c@3.19)"},
		{"[a]", "TApp@3.7(TCon []@3.7, TVar a@3.8)"},
		{"[] a", "TApp@3.7(TCon []@3.7, TVar a@3.10)"},
		{"[a] -> b", "TApp@3.7(TApp@3.7(TCon ->@3.11, TApp@3.7(TCon []@3.7, TVar a@3.8)), TVar b@3.14)"},
		{"(a, b)", "TApp@3.7(TApp@3.7(TCon (,)@3.7, TVar a@3.8), TVar b@3.11)"},
		{"(((a), b))", "TApp@3.8(TApp@3.8(TCon (,)@3.8, TVar a@3.10), TVar b@3.14)"},
		{"(a, b, c)", "TApp@3.7(TApp@3.7(TApp@3.7(TCon (,,)@3.7, TVar a@3.8), TVar b@3.11), TVar c@3.14)"},
		{"()", "TCon ()@3.7"},
		{"((->))", "TCon ->@3.8"},
		{"(->) (,) (,,)", "TApp@3.7(TApp@3.7(TCon ->@3.7, TCon (,)@3.12), TCon (,,)@3.16)"},
	} {
		wantPlaces(t, "class C c where\n m :: "+c[0], "DClass C@2.1(TVar c@2.9, List(DMethod m@3.2("+c[1]+")))")
	}
}

// P3.1: the positions of expressions.
func TestPlacesOfExps(t *testing.T) {
	for _, c := range [][2]string{
		{"((x))", "EVar x@2.7"},
		{"(((+)))", "EVar +@2.7"},
		{"(:+)", "ECon :+@2.5"},
		{"((,))", "ECon (,)@2.6"},
		{"()", "ECon ()@2.5"},
		{`"a" 1`, `EApp@2.5(EStr a@2.5, EInt 1@2.9)`},
		{"(f) (x y) z", "EApp@2.6(EApp@2.6(EVar f@2.6, EApp@2.10(EVar x@2.10, EVar y@2.12)), EVar z@2.15)"},
		{"(+) x", "EApp@2.5(EVar +@2.5, EVar x@2.9)"},
		{"(a) + (b * c)", "EOps@2.6(EVar a@2.6, EOp +@2.9, EOps@2.12(EVar b@2.12, EOp *@2.14, EVar c@2.16))"},
		{"a `f` b `C` c", "EOps@2.5(EVar a@2.5, EOp f@2.7, EVar b@2.11, EOp C 1@2.13, EVar c@2.17)"},
		{"((a) + b -)", "ELeft@2.5(EOps@2.7(EVar a@2.7, EOp +@2.10, EVar b@2.12), EOp -@2.14)"},
		{"((+ a))", "ERight@2.6(EOp +@2.7, EVar a@2.9)"},
		{"(`f` a)", "ERight@2.5(EOp f@2.6, EVar a@2.10)"},
		{"(a, (b))", "ETup@2.5(EVar a@2.6, EVar b@2.10)"},
		{"((a, b, c))", "ETup@2.6(EVar a@2.7, EVar b@2.10, EVar c@2.13)"},
		{"([a])", "EList@2.6(EVar a@2.7)"},
		{"[]", "EList@2.5"},
		{`(\(x) -> y)`, "ELam@2.6(List(PVar x@2.8), EVar y@2.14)"},
		{"let { x = a } in b", "ELet@2.5(List(DFun x@2.11(DClause@2.11(List, DRhs@2.13(List(DGuard@2.13(None, EVar a@2.15)), List)))), EVar b@2.22)"},
		{"if a then b else c", "EIf@2.5(EVar a@2.8, EVar b@2.15, EVar c@2.22)"},
		{"case a of (b) -> c", "ECase@2.5(EVar a@2.10, EAlt@2.16(PVar b@2.16, DRhs@2.19(List(DGuard@2.19(None, EVar c@2.22)), List)))"},
		{"case a of { b | c -> d | e -> g }", "ECase@2.5(EVar a@2.10, EAlt@2.17(PVar b@2.17, DRhs@2.19(List(DGuard@2.19(EVar c@2.21, EVar d@2.26), DGuard@2.28(EVar e@2.30, EVar g@2.35)), List)))"},
		{"do { (a) <- b; let { c = d }; let {} in e }", "EDo@2.5(SGen@2.11(PVar a@2.11, EVar b@2.17), SLet@2.20(List(DFun c@2.26(DClause@2.26(List, DRhs@2.28(List(DGuard@2.28(None, EVar d@2.30)), List))))), ELet@2.35(List, EVar e@2.45))"},
		{"C { l = a, (+) = b }", "EMake C@2.5(EField l@2.9(EVar a@2.13), EField +@2.16(EVar b@2.22))"},
		{"(C) {}", "EMake C@2.6"},
		{"(:) {}", "EMake :@2.5"},
		{"(x) { l = a } { m = b }", "EPut@2.6(EPut@2.6(EVar x@2.6, EField l@2.11(EVar a@2.15)), EField m@2.21(EVar b@2.25))"},
		{"(C {}) { l = a }", "EPut@2.6(EMake C@2.6, EField l@2.14(EVar a@2.18))"},
	} {
		wantExpPlaces(t, c[0], c[1])
	}
}

// P3.1: the positions of patterns.
func TestPlacesOfPatterns(t *testing.T) {
	for _, c := range [][2]string{
		{"(x)", "PVar x@2.8"},
		{"(((+)))", "PVar +@2.9"},
		{"(_)", "PWild@2.8"},
		{`((1, "a"))`, "PTup@2.8(PInt 1@2.9, PStr a@2.12)"},
		{"[x]", "PList@2.7(PVar x@2.8)"},
		{"(C x)", "PCon C@2.8(PVar x@2.10)"},
		{"((C) (x) y)", "PCon C@2.9(PVar x@2.13, PVar y@2.16)"},
		{"((:) x y)", "PCon :@2.8(PVar x@2.12, PVar y@2.14)"},
		{"((x) : y)", "POps@2.9(PVar x@2.9, EOp : 1@2.12, PVar y@2.14)"},
		{"x@(C y)", "PAs x@2.7(PCon C@2.10(PVar y@2.12))"},
		{"C { l = (x) }", "PMake C@2.7(EField l@2.11(PVar x@2.16))"},
	} {
		wantExpPlaces(t, `\ `+c[0]+" -> y", "ELam@2.5(List("+c[1]+"), EVar y@2."+itoa(7+len(c[0])+4)+")")
	}
}

// P3.1: the positions of equations.
func TestPlacesOfEquations(t *testing.T) {
	right := func(col int) string {
		return "DRhs@2." + itoa(col) + "(List(DGuard@2." + itoa(col) + "(None, EVar z@2." + itoa(col+2) + ")), List)"
	}
	for _, c := range [][2]string{
		{"f x", "DFun f@2.1(DClause@2.1(List(PVar x@2.3), " + right(5) + "))"},
		{"((f) x)", "DFun f@2.3(DClause@2.3(List(PVar x@2.6), " + right(9) + "))"},
		{"(+) x", "DFun +@2.1(DClause@2.1(List(PVar x@2.5), " + right(7) + "))"},
		{"(x) + y", "DFun +@2.2(DClause@2.2(List(PVar x@2.2, PVar y@2.7), " + right(9) + "))"},
		{"a : b + (c) : d", "DFun +@2.1(DClause@2.1(List(POps@2.1(PVar a@2.1, EOp : 1@2.3, PVar b@2.5), POps@2.10(PVar c@2.10, EOp : 1@2.13, PVar d@2.15)), " + right(17) + "))"},
		{"(x, y)", "DPat@2.1(PTup@2.1(PVar x@2.2, PVar y@2.5), " + right(8) + ")"},
		{"((x) : y)", "DPat@2.3(POps@2.3(PVar x@2.3, EOp : 1@2.6, PVar y@2.8), " + right(11) + ")"},
	} {
		wantPlaces(t, c[0]+" = z", c[1])
	}
	wantPlaces(t, "f x | a = b\n    | c = d where g = e\nf y = h",
		"DFun f@2.1(DClause@2.1(List(PVar x@2.3), DRhs@2.5(List(DGuard@2.5(EVar a@2.7, EVar b@2.11), DGuard@3.5(EVar c@3.7, EVar d@3.11)), List(DFun g@3.19(DClause@3.19(List, DRhs@3.21(List(DGuard@3.21(None, EVar e@3.23)), List)))))), DClause@4.1(List(PVar y@4.3), DRhs@4.5(List(DGuard@4.5(None, EVar h@4.7)), List)))")
}
