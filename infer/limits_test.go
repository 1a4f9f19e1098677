package infer_test

import (
	"strconv"
	"strings"
	"testing"

	"teasel/api"
	"teasel/infer"
)

// types is what Types answers for the Prelude and declarations of a module M.
func types(t *testing.T, declarations ...api.Node) ([]api.Typed, api.Diag) {
	t.Helper()
	return infer.Types(append(trees(t, api.Prelude), module("M", declarations...))...)
}

// at puts a declaration at a line.
func at(line int, d api.Node) api.Node {
	d.Line, d.Col = line, 5
	return d
}

// wantLast holds that the last of some declarations has that type, or an error
// at line 7.
func wantLast(t *testing.T, want string, declarations ...api.Node) {
	t.Helper()
	all, d := types(t, declarations...)
	got := ""
	if len(all) > 0 {
		got = all[len(all)-1].Type
	}
	if d != (api.Diag{}) {
		got = errorText(d.Number)
		if d.Line != 7 || d.Col != 5 || d.File != "M" || len(all) != 0 {
			t.Error(d, len(all))
		}
	}
	if got != want {
		t.Errorf("got %.200s, want %.200s", got, want)
	}
}

// listed is an expression within so many lists, whose type has twice as many
// nodes more.
func listed(times int, n api.Node) api.Node {
	return nested(times, n, func(n api.Node) api.Node { return node(api.EList, n) })
}

func listsOf(times int, of string) string {
	return strings.Repeat("[", times) + of + strings.Repeat("]", times)
}

func let(n api.Node, declarations ...api.Node) api.Node {
	return node(api.ELet, list(declarations...), n)
}

func lambda(n api.Node, patterns ...api.Node) api.Node {
	return node(api.ELam, list(patterns...), n)
}

// constant is an expression of type Int, whatever type its part has.
func constant(n api.Node) api.Node {
	return apply(variable("const"), number(1), n)
}

// P9.2: the type of a name has 1000 nodes at most, which is 999.
func TestTypeSizes(t *testing.T) {
	f := func(patterns []api.Node, body api.Node) api.Node { return at(7, function("f", patterns, body)) }
	x, y := []api.Node{named("x")}, named("y")
	wantLast(t, listsOf(499, "Int"), f(nil, listed(499, number(1))))
	wantLast(t, "ErrType", f(nil, listed(500, number(1))))
	wantLast(t, "a -> "+listsOf(497, "a"), f(x, listed(497, variable("x"))))
	wantLast(t, "ErrType", f(x, listed(498, variable("x"))))
	// It is the first error, beside others of the group.
	wantLast(t, "ErrType", f(nil, node(api.ETup, listed(500, number(1)), apply(variable("show"), variable("id")))))
	// A name that a declaration within binds, and a variable of a DPat.
	for times, want := range map[int]string{499: "Int", 500: "ErrType"} {
		big := listed(times, number(1))
		wantLast(t, want, f(nil, let(number(1), function("y", nil, big))))
		wantLast(t, want, f(nil, let(number(1), node(api.DPat, node(api.PTup, y, node(api.PWild)), rightSide(node(api.ETup, big, big))))))
		wantLast(t, want, f(nil, let(constant(let(number(1), function("z", nil, variable("y")))), function("y", nil, big))))
		wantLast(t, want, f(nil, node(api.EDo, node(api.SLet, list(function("y", nil, big))), number(1))))
		// It may become that great after its own declaration.
		wantLast(t, want, f(nil, apply(lambda(let(number(1), function("z", nil, variable("y"))), y), big)))
		wantLast(t, want, f(nil, apply(lambda(let(number(1), node(api.DPat, node(api.PList, named("z")), rightSide(node(api.EList, variable("y"))))), y), big)))
	}
	// What nothing but patterns binds, and expressions, may be greater.
	big := listed(800, number(1))
	wantLast(t, "Int", f(nil, constant(big)))
	wantLast(t, "Int", f(nil, apply(lambda(number(1), y), big)))
	wantLast(t, "Int", f(nil, node(api.ECase, big, node(api.EAlt, y, rightSide(number(1))))))
	wantLast(t, "[Int]", f(nil, node(api.EDo, node(api.SGen, y, node(api.EList, big)), node(api.EList, number(1)))))
	wantLast(t, "Int", f(nil, let(number(1), node(api.DPat, node(api.PTup, node(api.PWild), y), rightSide(node(api.ETup, big, number(2)))))))
	wantLast(t, "Int", f(nil, let(constant(apply(variable("y"), big)), function("y", []api.Node{named("z")}, variable("z")))))
	// Others of the group, at its first declaration.
	g := func(times int) api.Node {
		return function("g", nil, listed(times, node(api.ECase, variable("f"), node(api.EAlt, node(api.PWild), rightSide(number(1))))))
	}
	wantLast(t, listsOf(499, "Int"), f(nil, constant(variable("g"))), g(499))
	wantLast(t, "ErrType", f(nil, constant(variable("g"))), g(500))
}

// A given scheme may be greater, but not the type of what is equal to it, nor
// that of a DFun of a DInst.
func TestGivenSizes(t *testing.T) {
	a := call(api.TVar, "a")
	arrow := func(from, to api.Node) api.Node {
		return node(api.TApp, node(api.TApp, call(api.TCon, "->"), from), to)
	}
	arrows := func(count int) api.Node {
		return nested(count-1, a, func(n api.Node) api.Node { return arrow(a, n) })
	}
	con := func(count int) api.Node {
		return call(api.DData, "T", list(a), list(call(api.DCon, "C", list(arrows(count)))))
	}
	class := func(count int) api.Node {
		return call(api.DClass, "K", a, list(call(api.DMethod, "k", arrows(count))))
	}
	f := func(body api.Node) api.Node { return at(7, function("f", nil, body)) }
	one := func(all []api.Typed, d api.Diag) string {
		if d != (api.Diag{}) || len(all) != 42 {
			return errorText(d.Number)
		}
		return strconv.Itoa(len(all[41].Type))
	}
	// Each arrow comes with 4 nodes.
	if got := one(types(t, con(249), f(call(api.ECon, "C")))); got != strconv.Itoa(len("() -> T a")+248*len("a -> ")+1) {
		t.Error(got)
	}
	wantLast(t, "ErrType", con(250), f(call(api.ECon, "C")))
	wantLast(t, "Int", con(500), f(constant(call(api.ECon, "C"))))
	if got := one(types(t, class(250), f(variable("k")))); got != strconv.Itoa(len("K a => a")+249*len("a -> ")) {
		t.Error(got)
	}
	wantLast(t, "ErrType", class(251), f(variable("k")))
	inst := func(of api.Node, methods ...api.Node) api.Node {
		return call(api.DInst, "K", list(), of, list(methods...))
	}
	listType := node(api.TApp, call(api.TCon, "[]"), a)
	method := at(7, function("k", nil, variable("error")))
	wantLast(t, "Int", class(250), inst(call(api.TCon, "Int"), method), function("f", nil, number(1)))
	wantLast(t, "ErrType", class(251), inst(call(api.TCon, "Int"), method), function("f", nil, number(1)))
	wantLast(t, "Int", class(251), inst(call(api.TCon, "Int")), function("f", nil, number(1)))
	wantLast(t, "Int", class(167), inst(listType, method), function("f", nil, number(1)))
	wantLast(t, "ErrType", class(168), inst(listType, method), function("f", nil, number(1)))
}

// costs is classes in which a pred of L a expands to one more than that of a, of
// T a to one more than twice that of a, and of K a to itself alone.
const costs = `module A where
data L a = L a
data T a = T a
data K a = K a
class E a where { e :: a -> Int }
class F a where { f :: a -> Int }
instance E Int where
instance F Int where
instance E a => E (L a) where
instance (F a, E a) => E (T a) where
instance (F a, E a) => F (T a) where
instance E (K a) where
`

// wrapped is an expression in constructors, so many of each: "3T2L" is three T
// around two L.
func wrapped(how string, n api.Node) api.Node {
	for i := len(how) - 1; i > 0; {
		con, end := how[i:i+1], i
		for i--; i >= 0 && '0' <= how[i] && how[i] <= '9'; i-- {
		}
		times, _ := strconv.Atoi(how[i+1 : end])
		n = nested(times, n, func(n api.Node) api.Node { return apply(call(api.ECon, con), n) })
	}
	return n
}

// P9.2: a pred that is required may expand to 200 preds, those counted as often
// as they are required.
func TestPredSizes(t *testing.T) {
	mods := trees(t, api.Prelude, costs)
	want := func(want string, body api.Node, others ...api.Node) {
		t.Helper()
		m := module("M", append(others, at(7, function("f", nil, body)))...)
		m.Subs[1] = list(call(api.DImport, "A", list(call(api.DItem, "L"), call(api.DItem, "T"), call(api.DItem, "K"), call(api.DItem, "E"))), call(api.DImport, "Prelude", node(api.None)))
		all, d := infer.Types(append(mods[:2:2], m)...)
		got := errorText(d.Number)
		if d == (api.Diag{}) {
			got = all[len(all)-1].Type
		} else if d.File != "M" || d.Line != 7 || d.Col != 5 || len(all) != 0 {
			t.Error(d, len(all))
		}
		if got != want {
			t.Errorf("got %s, want %s", got, want)
		}
	}
	e := func(how string, n api.Node) api.Node { return apply(variable("e"), wrapped(how, n)) }
	x, y, yes := variable("x"), variable("y"), call(api.ECon, "True")
	want("Int", e("199L", number(1)))
	want("ErrType", e("200L", number(1)))
	want("Int", e("6T", number(1)))
	want("ErrType", e("7T", number(1)))
	want("ErrType", e("60T", number(1)))
	want("Int", e("73L6T", number(1)))
	want("ErrType", e("74L6T", number(1)))
	// Each pred by itself.
	want("(Int, Int)", node(api.ETup, e("199L", number(1)), e("73L6T", number(1))))
	// One without an instance requires nothing.
	want("ErrInstance", e("199L", yes))
	want("ErrType", e("200L", yes))
	want("ErrInstance", e("73L6T", yes))
	want("ErrType", e("74L6T", yes))
	// Neither does one of a variable, which then is ambiguous or in the scheme.
	want("Int", e("199L", variable("error")))
	want("ErrType", e("200L", variable("error")))
	want("E a => a -> Int", lambda(e("199L", x), named("x")))
	want("ErrType", lambda(e("200L", x), named("x")))
	// What it is of at the end counts, also for outer variables; and what a
	// scheme requires counts where its name is used.
	g := func(how string) api.Node { return function("g", []api.Node{named("x")}, e(how, x)) }
	want("Int", apply(variable("g"), wrapped("199L", number(1))), g("100L"))
	want("ErrType", apply(variable("g"), wrapped("200L", number(1))), g("100L"))
	want("Int", let(apply(variable("g"), wrapped("199L", number(1))), g("100L")))
	want("ErrType", let(apply(variable("g"), wrapped("200L", number(1))), g("100L")))
	want("ErrType", let(number(1), g("200L")))
	outer := lambda(let(number(1), function("g", []api.Node{named("z")}, e("100L", y))), named("y"))
	want("Int", apply(outer, wrapped("99L", number(1))))
	want("ErrType", apply(outer, wrapped("100L", number(1))))
	want("ErrInstance", apply(outer, wrapped("99L", yes)))
	want("ErrType", apply(outer, wrapped("100L", yes)))
	// How great its type is does not count.
	want("Int", e("1K", wrapped("600L", number(1))))
	want("Int", e("198L1K", wrapped("600L", number(1))))
	want("E (a (L Int)) => P a -> Int", lambda(node(api.ECase, constant(e("1K600L", x)), node(api.EAlt, node(api.PWild), rightSide(apply(variable("k"), x)))), named("x")),
		call(api.DData, "P", list(call(api.TVar, "a")), list(call(api.DCon, "P", list(node(api.TApp, call(api.TVar, "a"), node(api.TApp, call(api.TCon, "L"), call(api.TCon, "Int"))))))),
		function("k", []api.Node{call(api.PCon, "P", named("x"))}, e("0L", x)))
	// In a DFun of a DInst.
	inst := func(line int, how string) api.Node {
		a := call(api.TVar, "a")
		method := function("==", []api.Node{call(api.PCon, "K", named("x")), node(api.PWild)}, node(api.EOps, e(how, x), call(api.EOp, "=="), number(1)))
		method.Line, method.Col = line, 5
		return call(api.DInst, "Eq", list(call(api.DPred, "E", a)), node(api.TApp, call(api.TCon, "K"), a), list(method))
	}
	want("Int", number(1), inst(7, "199L"))
	want("ErrType", number(1), inst(7, "200L"))
}
