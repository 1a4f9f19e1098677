package parse_test

import (
	"slices"
	"strconv"
	"strings"
	"testing"

	"teasel/api"
	"teasel/layout"
	"teasel/lex"
	"teasel/parse"
)

const kindTexts = `None List DMod DImport DItem DData DCon DField DClass DMethod DInst DPred DFix DFun DClause DPat DRhs DGuard
EVar ECon EInt EStr EApp EOps EOp ELam ELet EIf ECase EAlt EDo ETup EList ELeft ERight EMake EPut EField EWild EAs
SGen SLet PVar PWild PInt PStr PCon POps PTup PList PAs PMake TVar TCon TApp`

var kindNames = strings.Fields(kindTexts)

// say is a tree in short: kinds, names, numbers, parts.
func say(n api.Node) string {
	return describe(n, func(api.Node) string { return "" })
}

// sayPlaces is a tree in short with the positions of all nodes that have one.
func sayPlaces(n api.Node) string {
	return describe(n, func(n api.Node) string {
		if n.Line == 0 && n.Col == 0 {
			return ""
		}
		return "@" + strconv.Itoa(n.Line) + "." + strconv.Itoa(n.Col)
	})
}

func describe(n api.Node, place func(api.Node) string) string {
	s := "?" + strconv.Itoa(n.Kind)
	if n.Kind >= 0 && n.Kind < len(kindNames) {
		s = kindNames[n.Kind]
	}
	if n.Name != "" {
		s += " " + n.Name
	}
	if n.N != 0 {
		s += " " + strconv.Itoa(n.N)
	}
	s += place(n)
	if len(n.Subs) == 0 {
		return s
	}
	return s + "(" + describeAll(n.Subs, ", ", place) + ")"
}

func describeAll(subs []api.Node, between string, place func(api.Node) string) string {
	var parts []string
	for _, x := range subs {
		parts = append(parts, describe(x, place))
	}
	return strings.Join(parts, between)
}

// lay is the tokens of a text that lex and layout take.
func lay(t *testing.T, text string) []api.Token {
	t.Helper()
	ts, d := lex.Read(text)
	if d != (api.Diag{}) {
		t.Fatalf("%q: lex: %+v", text, d)
	}
	ts, d = layout.Lay(ts)
	if d != (api.Diag{}) {
		t.Fatalf("%q: layout: %+v", text, d)
	}
	return ts
}

// tree is that of a text, which must be Right.
func tree(t *testing.T, text string) api.Node {
	t.Helper()
	n, d := parse.Parse(lay(t, text))
	if d != (api.Diag{}) {
		t.Fatalf("%q: %+v", text, d)
	}
	if n.Kind != api.DMod || len(n.Subs) != 3 || !parse.Right(n) {
		t.Fatalf("%q: not Right: %s", text, say(n))
	}
	return n
}

// wantTree holds that a whole file has that tree.
func wantTree(t *testing.T, text, want string) {
	t.Helper()
	if got := say(tree(t, text)); got != want {
		t.Errorf("%q:\ngot  %s\nwant %s", text, got, want)
	}
}

const header = "module M where\n"

// wantDecls holds that the declarations of a module have these trees.
func wantDecls(t *testing.T, text, want string) {
	t.Helper()
	n := tree(t, header+text)
	if got := describeAll(n.Subs[2].Subs, "; ", func(api.Node) string { return "" }); got != want {
		t.Errorf("%q:\ngot  %s\nwant %s", text, got, want)
	}
}

// plain is the tree of a right side without guards and declarations.
func plain(exp string) string {
	return "DRhs(List(DGuard(None, " + exp + ")), List)"
}

// wantExp holds that an expression has that tree.
func wantExp(t *testing.T, text, want string) {
	t.Helper()
	wantDecls(t, "f = "+text, "DFun f(DClause(List, "+plain(want)+"))")
}

// wantPattern holds that a pattern in brackets has that tree, as an argument,
// in a lambda, in an alternative and ahead of an arrow.
func wantPattern(t *testing.T, text, want string) {
	t.Helper()
	wantDecls(t, "f ("+text+") = x", "DFun f(DClause(List("+want+"), "+plain("EVar x")+"))")
	wantExp(t, `\(`+text+") -> x", "ELam(List("+want+"), EVar x)")
	wantExp(t, "case x of "+text+" -> x", "ECase(EVar x, EAlt("+want+", "+plain("EVar x")+"))")
	wantExp(t, "do { "+text+" <- x; x }", "EDo(SGen("+want+", EVar x), EVar x)")
}

// wantType holds that a type has that tree.
func wantType(t *testing.T, text, want string) {
	t.Helper()
	wantDecls(t, "class C c where m :: "+text, "DClass C(TVar c, List(DMethod m("+want+")))")
	wantDecls(t, "data D = E { l :: "+text+" }", "DData D(List, List(DCon E(List(DField l("+want+")))))")
	wantDecls(t, "data D = E ("+text+")", "DData D(List, List(DCon E(List("+want+"))))")
}

// P3.1: the chapter's examples.
func TestExamples(t *testing.T) {
	wantDecls(t, "f x (y:_) = g x where g = h",
		"DFun f(DClause(List(PVar x, POps(PVar y, EOp : 1, PWild)), DRhs(List(DGuard(None, EApp(EVar g, EVar x))), List(DFun g(DClause(List, "+plain("EVar h")+"))))))")
	wantDecls(t, "a <+> C b = (a +)\n(x, 1) = p",
		"DFun <+>(DClause(List(PVar a, PCon C(PVar b)), "+plain("ELeft(EVar a, EOp +)")+")); DPat(PTup(PVar x, PInt 1), "+plain("EVar p")+")")
	wantDecls(t, "data T a = N | C { l :: a, (#) :: [T a] }",
		"DData T(List(TVar a), List(DCon N(List), DCon C(List(DField l(TVar a), DField #(TApp(TCon [], TApp(TCon T, TVar a)))))))")
	wantWrong(t, "f = x y = z", api.ErrParse, 2, 9)
	wantWrongFile(t, "module M where { f = (a", api.ErrParse, 1, 24)
	wantWrong(t, "f = _", api.ErrPattern, 2, 5)
	wantWrong(t, "g (f x) = 1", api.ErrPattern, 2, 4)
	wantDecls(t, "f x = 1\nf = 2", "DFun f(DClause(List(PVar x), "+plain("EInt 1")+")); DFun f(DClause(List, "+plain("EInt 2")+"))")
	wantWrong(t, "f x = 1\nf x y = 2", api.ErrPattern, 3, 1)
	wantExp(t, `\x -> a + b`, "ELam(List(PVar x), EOps(EVar a, EOp +, EVar b))")
	wantWrong(t, "x@y { l = 1 } = z", api.ErrPattern, 2, 3)
}

// P3.1: modules, their items and imports.
func TestModules(t *testing.T) {
	wantTree(t, "module M where", "DMod M(None, List, List)")
	wantTree(t, "module M where {}", "DMod M(None, List, List)")
	wantTree(t, "module M where {;;;}", "DMod M(None, List, List)")
	wantTree(t, "module M () where", "DMod M(List, List, List)")
	wantTree(t, "module M (f, T, (+), (-->), x') where", "DMod M(List(DItem f, DItem T, DItem +, DItem -->, DItem x'), List, List)")
	wantTree(t, "module M where import A", "DMod M(None, List(DImport A(None)), List)")
	wantTree(t, "module M where {;import A;;import B ();import C (g, (<), D);f = x;}",
		"DMod M(None, List(DImport A(None), DImport B(List), DImport C(List(DItem g, DItem <, DItem D))), List(DFun f(DClause(List, "+plain("EVar x")+"))))")
	wantTree(t, "module M where\nimport A\ndata D", "DMod M(None, List(DImport A(None)), List(DData D(List, List)))")
}

// P3.1: data types.
func TestData(t *testing.T) {
	wantDecls(t, "data T", "DData T(List, List)")
	wantDecls(t, "data T a b", "DData T(List(TVar a, TVar b), List)")
	wantDecls(t, "data T = A", "DData T(List, List(DCon A(List)))")
	wantDecls(t, "data T = A | (:+) a | B { l :: a } | C", "DData T(List, List(DCon A(List), DCon :+(List(TVar a)), DCon B(List(DField l(TVar a))), DCon C(List)))")
	wantDecls(t, "data T a = A a B (C a) [a] () (a -> a)",
		"DData T(List(TVar a), List(DCon A(List(TVar a, TCon B, TApp(TCon C, TVar a), TApp(TCon [], TVar a), TCon (), TApp(TApp(TCon ->, TVar a), TVar a)))))")
	wantDecls(t, "data T = (:) { (+) :: a, l :: b }", "DData T(List, List(DCon :(List(DField +(TVar a), DField l(TVar b)))))")
}

// P3.1: types.
func TestTypes(t *testing.T) {
	wantType(t, "a", "TVar a")
	wantType(t, "A", "TCon A")
	wantType(t, "((a))", "TVar a")
	wantType(t, "A b C", "TApp(TApp(TCon A, TVar b), TCon C)")
	wantType(t, "a (b c) d", "TApp(TApp(TVar a, TApp(TVar b, TVar c)), TVar d)")
	wantType(t, "a -> b -> c", "TApp(TApp(TCon ->, TVar a), TApp(TApp(TCon ->, TVar b), TVar c))")
	wantType(t, "(a -> b) -> c", "TApp(TApp(TCon ->, TApp(TApp(TCon ->, TVar a), TVar b)), TVar c)")
	wantType(t, "a b -> c d", "TApp(TApp(TCon ->, TApp(TVar a, TVar b)), TApp(TVar c, TVar d))")
	wantType(t, "()", "TCon ()")
	wantType(t, "(,)", "TCon (,)")
	wantType(t, "(,,)", "TCon (,,)")
	wantType(t, "(->)", "TCon ->")
	wantType(t, "[]", "TCon []")
	wantType(t, "[a -> b]", "TApp(TCon [], TApp(TApp(TCon ->, TVar a), TVar b))")
	wantType(t, "(a, b)", "TApp(TApp(TCon (,), TVar a), TVar b)")
	wantType(t, "(a, b -> c, [d])", "TApp(TApp(TApp(TCon (,,), TVar a), TApp(TApp(TCon ->, TVar b), TVar c)), TApp(TCon [], TVar d))")
	wantType(t, "() a [] b", "TApp(TApp(TApp(TCon (), TVar a), TCon []), TVar b)")
	wantType(t, "(a -> b) c", "TApp(TApp(TApp(TCon ->, TVar a), TVar b), TVar c)")
}

// P3.1: classes.
func TestClasses(t *testing.T) {
	wantDecls(t, "class C a", "DClass C(TVar a, List)")
	wantDecls(t, "class C a where {}", "DClass C(TVar a, List)")
	wantDecls(t, "class C a where\n m :: a\n (+) :: b -> a", "DClass C(TVar a, List(DMethod m(TVar a), DMethod +(TApp(TApp(TCon ->, TVar b), TVar a))))")
}

// P3.1: instances: their contexts and types.
func TestInstances(t *testing.T) {
	for _, c := range [][2]string{
		{"C D", "List, TCon D, List"},
		{"C D where {}", "List, TCon D, List"},
		{"() => C D", "List, TCon D, List"},
		{"A a => C D", "List(DPred A(TVar a)), TCon D, List"},
		{"(A a) => C D", "List(DPred A(TVar a)), TCon D, List"},
		{"(A a, B a, A b) => C D", "List(DPred A(TVar a), DPred B(TVar a), DPred A(TVar b)), TCon D, List"},
		{"C []", "List, TCon [], List"},
		{"C [a]", "List, TApp(TCon [], TVar a), List"},
		{"C ()", "List, TCon (), List"},
		{"C (D)", "List, TCon D, List"},
		{"C (D a b)", "List, TApp(TApp(TCon D, TVar a), TVar b), List"},
		{"C (,)", "List, TCon (,), List"},
		{"C (,,)", "List, TCon (,,), List"},
		{"C (->)", "List, TCon ->, List"},
		{"C (a, b)", "List, TApp(TApp(TCon (,), TVar a), TVar b), List"},
		{"C (a, b, c)", "List, TApp(TApp(TApp(TCon (,,), TVar a), TVar b), TVar c), List"},
		{"C (a -> b)", "List, TApp(TApp(TCon ->, TVar a), TVar b), List"},
		{"A a => C [a]", "List(DPred A(TVar a)), TApp(TCon [], TVar a), List"},
	} {
		wantDecls(t, "instance "+c[0], "DInst C("+c[1]+")")
	}
	wantDecls(t, "instance C D where\n f x = a\n f y = b\n g = c\n x + y = d",
		"DInst C(List, TCon D, List(DFun f(DClause(List(PVar x), "+plain("EVar a")+"), DClause(List(PVar y), "+plain("EVar b")+
			")), DFun g(DClause(List, "+plain("EVar c")+")), DFun +(DClause(List(PVar x, PVar y), "+plain("EVar d")+"))))")
}

// P3.1: fixities.
func TestFixities(t *testing.T) {
	wantDecls(t, "infixl 0 +", "DFix infixl(List(EOp +))")
	wantDecls(t, "infixr 9 :, `f`, `C`, -", "DFix infixr 9(List(EOp : 1, EOp f, EOp C 1, EOp -))")
	wantDecls(t, "infix 4 ==\ninfix 05 :+", "DFix infix 4(List(EOp ==)); DFix infix 5(List(EOp :+ 1))")
}

// P3.1: right sides.
func TestRightSides(t *testing.T) {
	wantDecls(t, "f | a = b | c = d", "DFun f(DClause(List, DRhs(List(DGuard(EVar a, EVar b), DGuard(EVar c, EVar d)), List)))")
	wantDecls(t, "f | a = b where { c = d; e = g }",
		"DFun f(DClause(List, DRhs(List(DGuard(EVar a, EVar b)), List(DFun c(DClause(List, "+plain("EVar d")+")), DFun e(DClause(List, "+plain("EVar g")+"))))))")
	wantDecls(t, "f = a where", "DFun f(DClause(List, "+plain("EVar a")+"))")
	wantDecls(t, "(x) | a = b", "DFun x(DClause(List, DRhs(List(DGuard(EVar a, EVar b)), List)))")
	wantExp(t, "case a of { b | c -> d | e -> g where { h = i }; j -> k }",
		"ECase(EVar a, EAlt(PVar b, DRhs(List(DGuard(EVar c, EVar d), DGuard(EVar e, EVar g)), List(DFun h(DClause(List, "+plain("EVar i")+"))))), EAlt(PVar j, "+plain("EVar k")+"))")
	wantExp(t, `case a of { b | \c -> d -> e }`, `ECase(EVar a, EAlt(PVar b, DRhs(List(DGuard(ELam(List(PVar c), EVar d), EVar e)), List)))`)
	wantDecls(t, "f = case a of b -> c where d = e\n  where g = h",
		"DFun f(DClause(List, DRhs(List(DGuard(None, ECase(EVar a, EAlt(PVar b, DRhs(List(DGuard(None, EVar c)), List(DFun d(DClause(List, "+plain("EVar e")+
			")))))))), List(DFun g(DClause(List, "+plain("EVar h")+"))))))")
}

// P3.1: expressions.
func TestExps(t *testing.T) {
	for _, c := range [][2]string{
		{"x", "EVar x"},
		{"(+)", "EVar +"},
		{"((+))", "EVar +"},
		{"C", "ECon C"},
		{"(:)", "ECon :"},
		{"()", "ECon ()"},
		{"(,)", "ECon (,)"},
		{"(,,)", "ECon (,,)"},
		{"0", "EInt"},
		{"9223372036854775807", "EInt 9223372036854775807"},
		{`""`, "EStr"},
		{`"a\n\255"`, "EStr a\n\xff"},
		{"((x))", "EVar x"},
		{"f x y", "EApp(EApp(EVar f, EVar x), EVar y)"},
		{"f (x y)", "EApp(EVar f, EApp(EVar x, EVar y))"},
		{"(f x) y", "EApp(EApp(EVar f, EVar x), EVar y)"},
		{`1 "a" C`, "EApp(EApp(EInt 1, EStr a), ECon C)"},
		{"a + b", "EOps(EVar a, EOp +, EVar b)"},
		{"a : b `f` c `C` d - e", "EOps(EVar a, EOp : 1, EVar b, EOp f, EVar c, EOp C 1, EVar d, EOp -, EVar e)"},
		{"(a + b) * c", "EOps(EOps(EVar a, EOp +, EVar b), EOp *, EVar c)"},
		{"a + (b * c)", "EOps(EVar a, EOp +, EOps(EVar b, EOp *, EVar c))"},
		{"f a + g b c", "EOps(EApp(EVar f, EVar a), EOp +, EApp(EApp(EVar g, EVar b), EVar c))"},
		{"(a +)", "ELeft(EVar a, EOp +)"},
		{"(a + b * c `f`)", "ELeft(EOps(EVar a, EOp +, EVar b, EOp *, EVar c), EOp f)"},
		{"((a + b) :)", "ELeft(EOps(EVar a, EOp +, EVar b), EOp : 1)"},
		{"((a +))", "ELeft(EVar a, EOp +)"},
		{"(+ a)", "ERight(EOp +, EVar a)"},
		{"(: a + b)", "ERight(EOp : 1, EOps(EVar a, EOp +, EVar b))"},
		{"(`f` a b)", "ERight(EOp f, EApp(EVar a, EVar b))"},
		{"(`C` if a then b else c)", "ERight(EOp C 1, EIf(EVar a, EVar b, EVar c))"},
		{"(do { a } +)", "ELeft(EDo(EVar a), EOp +)"},
		{"(case a of {} + b -)", "ELeft(EOps(ECase(EVar a), EOp +, EVar b), EOp -)"},
		{"((+) +)", "ELeft(EVar +, EOp +)"},
		{"(+ (+))", "ERight(EOp +, EVar +)"},
		{"(a, b)", "ETup(EVar a, EVar b)"},
		{"(a + b, c d, e)", "ETup(EOps(EVar a, EOp +, EVar b), EApp(EVar c, EVar d), EVar e)"},
		{`(\x -> a, b)`, "ETup(ELam(List(PVar x), EVar a), EVar b)"},
		{"[]", "EList"},
		{"[a]", "EList(EVar a)"},
		{"[a, b + c, [], d, e]", "EList(EVar a, EOps(EVar b, EOp +, EVar c), EList, EVar d, EVar e)"},
		{`\x y -> z`, "ELam(List(PVar x, PVar y), EVar z)"},
		{`a + \x -> b + c`, "EOps(EVar a, EOp +, ELam(List(PVar x), EOps(EVar b, EOp +, EVar c)))"},
		{`(\x -> a) + b`, "EOps(ELam(List(PVar x), EVar a), EOp +, EVar b)"},
		{`(\x -> a) b`, "EApp(ELam(List(PVar x), EVar a), EVar b)"},
		{"let {} in a", "ELet(List, EVar a)"},
		{"let x = a in b + c", "ELet(List(DFun x(DClause(List, " + plain("EVar a") + "))), EOps(EVar b, EOp +, EVar c))"},
		{"let { f x = a; f y = b; (c, d) = e } in g", "ELet(List(DFun f(DClause(List(PVar x), " + plain("EVar a") + "), DClause(List(PVar y), " + plain("EVar b") + ")), DPat(PTup(PVar c, PVar d), " + plain("EVar e") + ")), EVar g)"},
		{"if a then b else c + d", "EIf(EVar a, EVar b, EOps(EVar c, EOp +, EVar d))"},
		{"if if a then b else c then if d then e else f else g", "EIf(EIf(EVar a, EVar b, EVar c), EIf(EVar d, EVar e, EVar f), EVar g)"},
		{"case a of {}", "ECase(EVar a)"},
		{"case a of { ; b -> c; ; }", "ECase(EVar a, EAlt(PVar b, " + plain("EVar c") + "))"},
		{"case a of { b -> c } + d", "EOps(ECase(EVar a, EAlt(PVar b, " + plain("EVar c") + ")), EOp +, EVar d)"},
		{"do { a } + do { b }", "EOps(EDo(EVar a), EOp +, EDo(EVar b))"},
		{"do { a; b <- c; let { d = e }; let {}; g }", "EDo(EVar a, SGen(PVar b, EVar c), SLet(List(DFun d(DClause(List, " + plain("EVar e") + ")))), SLet(List), EVar g)"},
		{"do { let { a = b } in c }", "EDo(ELet(List(DFun a(DClause(List, " + plain("EVar b") + "))), EVar c))"},
		{"do { let {} in a + b; c }", "EDo(ELet(List, EOps(EVar a, EOp +, EVar b)), EVar c)"},
		{"do { if a then b else c }", "EDo(EIf(EVar a, EVar b, EVar c))"},
	} {
		wantExp(t, c[0], c[1])
	}
}

// P3.1: records.
func TestRecords(t *testing.T) {
	wantExp(t, "C {}", "EMake C")
	wantExp(t, "(C) {}", "EMake C")
	wantExp(t, "((:)) {}", "EMake :")
	wantExp(t, "() {}", "EMake ()")
	wantExp(t, "(,) {}", "EMake (,)")
	wantExp(t, "C { l = a }", "EMake C(EField l(EVar a))")
	wantExp(t, "C { l = a + b, (+) = c }", "EMake C(EField l(EOps(EVar a, EOp +, EVar b)), EField +(EVar c))")
	wantExp(t, "C { l = a } { m = b }", "EPut(EMake C(EField l(EVar a)), EField m(EVar b))")
	wantExp(t, "C {} { m = b } { n = c }", "EPut(EPut(EMake C, EField m(EVar b)), EField n(EVar c))")
	wantExp(t, "x { l = a }", "EPut(EVar x, EField l(EVar a))")
	wantExp(t, "f x { l = a } y", "EApp(EApp(EVar f, EPut(EVar x, EField l(EVar a))), EVar y)")
	wantExp(t, "(f x) { l = a }", "EPut(EApp(EVar f, EVar x), EField l(EVar a))")
	wantExp(t, "f C {} D", "EApp(EApp(EVar f, EMake C), ECon D)")
	wantExp(t, "(a, b) { l = a }", "EPut(ETup(EVar a, EVar b), EField l(EVar a))")
	wantExp(t, "1 { l = a }", "EPut(EInt 1, EField l(EVar a))")
	wantExp(t, "(do { a }) { l = let {} in b }", "EPut(EDo(EVar a), EField l(ELet(List, EVar b)))")
}

// P3.1: patterns.
func TestPatterns(t *testing.T) {
	for _, c := range [][2]string{
		{"x", "PVar x"},
		{"(+)", "PVar +"},
		{"_", "PWild"},
		{"1", "PInt 1"},
		{`"a"`, "PStr a"},
		{"C", "PCon C"},
		{"(:)", "PCon :"},
		{"()", "PCon ()"},
		{"(,) x y", "PCon (,)(PVar x, PVar y)"},
		{"C x (D y) _", "PCon C(PVar x, PCon D(PVar y), PWild)"},
		{"(C x) y", "PCon C(PVar x, PVar y)"},
		{"(:+) x y", "PCon :+(PVar x, PVar y)"},
		{"x : y `C` D z", "POps(PVar x, EOp : 1, PVar y, EOp C 1, PCon D(PVar z))"},
		{"(x : y) : z", "POps(POps(PVar x, EOp : 1, PVar y), EOp : 1, PVar z)"},
		{"(x, _)", "PTup(PVar x, PWild)"},
		{"(x, 1, C)", "PTup(PVar x, PInt 1, PCon C)"},
		{"[]", "PList"},
		{"[x, [_]]", "PList(PVar x, PList(PWild))"},
		{"x@y", "PAs x(PVar y)"},
		{"x@y@_", "PAs x(PAs y(PWild))"},
		{"x@(C y)", "PAs x(PCon C(PVar y))"},
		{"x@C {}", "PAs x(PMake C)"},
		{"C x@D y", "PCon C(PAs x(PCon D), PVar y)"},
		{"C {}", "PMake C"},
		{"C { l = x, (+) = D _ }", "PMake C(EField l(PVar x), EField +(PCon D(PWild)))"},
		{"C { l = x : y }", "PMake C(EField l(POps(PVar x, EOp : 1, PVar y)))"},
	} {
		wantPattern(t, c[0], c[1])
	}
}

// P3.1: equations: clauses and patterns.
func TestEquations(t *testing.T) {
	clause := func(name, patterns string) string {
		return "DFun " + name + "(DClause(List" + patterns + ", " + plain("EVar z") + "))"
	}
	pattern := func(p string) string {
		return "DPat(" + p + ", " + plain("EVar z") + ")"
	}
	for _, c := range [][2]string{
		{"f", clause("f", "")},
		{"(f)", clause("f", "")},
		{"(+)", clause("+", "")},
		{"f x _", clause("f", "(PVar x, PWild)")},
		{"((f x) y)", clause("f", "(PVar x, PVar y)")},
		{"(+) x y w", clause("+", "(PVar x, PVar y, PVar w)")},
		{"f (+)", clause("f", "(PVar +)")},
		{"x + y", clause("+", "(PVar x, PVar y)")},
		{"(x + y)", clause("+", "(PVar x, PVar y)")},
		{"x `f` C y", clause("f", "(PVar x, PCon C(PVar y))")},
		{"a : b + c", clause("+", "(POps(PVar a, EOp : 1, PVar b), PVar c)")},
		{"a + b : c `D` d", clause("+", "(PVar a, POps(PVar b, EOp : 1, PVar c, EOp D 1, PVar d))")},
		{"a : b + c : d", clause("+", "(POps(PVar a, EOp : 1, PVar b), POps(PVar c, EOp : 1, PVar d))")},
		{"(a : b) + c", clause("+", "(POps(PVar a, EOp : 1, PVar b), PVar c)")},
		{"_", pattern("PWild")},
		{"1", pattern("PInt 1")},
		{`"a"`, pattern("PStr a")},
		{"C", pattern("PCon C")},
		{"C x y", pattern("PCon C(PVar x, PVar y)")},
		{"x : y", pattern("POps(PVar x, EOp : 1, PVar y)")},
		{"x@y", pattern("PAs x(PVar y)")},
		{"x@C {}", pattern("PAs x(PMake C)")},
		{"[x]", pattern("PList(PVar x)")},
		{"(x, y)", pattern("PTup(PVar x, PVar y)")},
		{"C { l = x }", pattern("PMake C(EField l(PVar x))")},
		{"()", pattern("PCon ()")},
	} {
		wantDecls(t, c[0]+" = z", c[1])
	}
}

// P3.1: which clauses form one function.
func TestClauses(t *testing.T) {
	for _, c := range [][2]string{
		{"f x; f y; f z", "f3"},
		{"f x; g y; f z", "f1 g1 f1"},
		{"f; f; f", "f0 f0 f0"},
		{"f x; f; f y; f z", "f1 f0 f2"},
		{"f; f x", "f0 f1"},
		{"x + y; (+) x y; z + _; x `f` y; f x y", "+3 f2"},
		{"f x; C y; f z", "f1 - f1"},
		{"f x;;;f y", "f2"},
		{"f x; (x, y); (x, y)", "f1 - -"},
	} {
		var lines []string
		for _, left := range strings.Split(c[0], ";") {
			if strings.TrimSpace(left) != "" {
				left += " = 1"
			}
			lines = append(lines, left)
		}
		block := "{" + strings.Join(lines, ";") + "}"
		for _, n := range []api.Node{
			tree(t, "module M where "+block).Subs[2],
			tree(t, header+"h = let "+block+" in x").Subs[2].Subs[0].Subs[0].Subs[1].Subs[0].Subs[0].Subs[1].Subs[0],
			tree(t, header+"h = x where "+block).Subs[2].Subs[0].Subs[0].Subs[1].Subs[1],
			tree(t, header+"h = do { let "+block+"; x }").Subs[2].Subs[0].Subs[0].Subs[1].Subs[0].Subs[0].Subs[1].Subs[0].Subs[0],
		} {
			if got := sayClauses(n); got != c[1] {
				t.Errorf("%s: got %s, want %s", block, got, c[1])
			}
		}
	}
	wantDecls(t, "f x = 1\ninfix 3 `f`\nf y = 2", "DFun f(DClause(List(PVar x), "+plain("EInt 1")+")); DFix infix 3(List(EOp f)); DFun f(DClause(List(PVar y), "+plain("EInt 2")+"))")
}

// sayClauses is the functions of a list, each with how many clauses with
// patterns it has.
func sayClauses(list api.Node) string {
	var words []string
	for _, d := range list.Subs {
		switch {
		case d.Kind == api.DPat:
			words = append(words, "-")
		case len(d.Subs[0].Subs[0].Subs) == 0:
			words = append(words, d.Name+"0")
		default:
			words = append(words, d.Name+strconv.Itoa(len(d.Subs)))
		}
	}
	return strings.Join(words, " ")
}

// P3.1: the braces of a block may have any N, if it is the same.
func TestBlocksOfAnyN(t *testing.T) {
	for _, n := range []int{0, 1, 2, -7} {
		ts := lay(t, "module M where { f = let { x = 1 } in x }")
		for i := range ts {
			if ts[i].Text == "{" || ts[i].Text == "}" {
				ts[i].N = n
			}
		}
		if got, d := parse.Parse(ts); d != (api.Diag{}) || got.Kind != api.DMod {
			t.Errorf("N %d: %+v", n, d)
		}
	}
}

// P3.1: what is behind the end is ignored; Texts and Ns that mean nothing are.
func TestIgnored(t *testing.T) {
	ts := lay(t, "module M where { f = (1, \"a\", x) }")
	want, _ := parse.Parse(ts)
	more := append(slices.Clone(ts), api.Token{Kind: api.SignTok, Text: "(", Line: 7}, api.Token{Kind: 99})
	if got, d := parse.Parse(more); d != (api.Diag{}) || say(got) != say(want) {
		t.Errorf("%s, %+v", say(got), d)
	}
	odd := slices.Clone(ts)
	for i := range odd {
		switch {
		case odd[i].Kind == api.IntTok || odd[i].Kind == api.EndTok:
			odd[i].Text = "odd"
		case odd[i].Text != "{" && odd[i].Text != "}":
			odd[i].N = 77
		}
	}
	odd[len(odd)-1].N = 5
	if got, d := parse.Parse(odd); d != (api.Diag{}) || say(got) != say(want) {
		t.Errorf("%s, %+v", say(got), d)
	}
}

// P3.1: the Prelude.
func TestPrelude(t *testing.T) {
	n := tree(t, api.Prelude)
	if n.Name != "Prelude" || say(n.Subs[1]) != "List(DImport Prim(None))" {
		t.Errorf("%s, %s", n.Name, say(n.Subs[1]))
	}
	counts := make([]int, len(kindNames))
	for _, d := range n.Subs[2].Subs {
		counts[d.Kind]++
	}
	if counts[api.DFix] != 9 || counts[api.DData] != 2 || counts[api.DClass] != 5 || counts[api.DInst] != 19 || counts[api.DFun] != 41 || len(n.Subs[2].Subs) != 76 {
		t.Error(counts)
	}
}
