package infer_test

import (
	"slices"
	"strconv"
	"strings"
	"testing"
	"time"

	"teasel/api"
	"teasel/infer"
)

func node(kind int, subs ...api.Node) api.Node {
	return api.Node{Kind: kind, Subs: subs}
}

func call(kind int, name string, subs ...api.Node) api.Node {
	return api.Node{Kind: kind, Name: name, Subs: subs}
}

func list(subs ...api.Node) api.Node {
	return node(api.List, subs...)
}

func module(name string, declarations ...api.Node) api.Node {
	return call(api.DMod, name, node(api.None), list(), list(declarations...))
}

func function(name string, patterns []api.Node, body api.Node, where ...api.Node) api.Node {
	return call(api.DFun, name, node(api.DClause, list(patterns...), rightSide(body, where...)))
}

func rightSide(body api.Node, where ...api.Node) api.Node {
	return node(api.DRhs, list(node(api.DGuard, node(api.None), body)), list(where...))
}

func variable(name string) api.Node { return call(api.EVar, name) }
func named(name string) api.Node    { return call(api.PVar, name) }
func number(n int) api.Node         { return api.Node{Kind: api.EInt, N: n} }

func apply(f api.Node, arguments ...api.Node) api.Node {
	for _, a := range arguments {
		f = node(api.EApp, f, a)
	}
	return f
}

// nested is something in which the same stands so many times, one in another.
func nested(times int, inner api.Node, around func(api.Node) api.Node) api.Node {
	for range times {
		inner = around(inner)
	}
	return inner
}

// levels is how many levels a small tree has.
func levels(n api.Node) int {
	most := 0
	for _, part := range n.Subs {
		most = max(most, levels(part))
	}
	return most + 1
}

// quickly is what Types answers, within some time.
func quickly(t *testing.T, what string, mods ...api.Node) ([]api.Typed, api.Diag) {
	t.Helper()
	start := time.Now()
	all, d := infer.Types(mods...)
	if d.Number != api.OK && len(all) != 0 {
		t.Fatal(what, "has types beside an error:", say(all))
	}
	if took := time.Since(start); took > 20*time.Second {
		t.Errorf("%s took %v", what, took)
	}
	return all, d
}

// declared is the declarations of a module's text.
func declared(t *testing.T, text string) []api.Node {
	t.Helper()
	return tree(t, whole(text)).Subs[2].Subs
}

// beside is the Prelude, and a module M with a function of x beside some others.
func beside(t *testing.T, body api.Node, others ...api.Node) []api.Node {
	t.Helper()
	f := function("f", []api.Node{named("x")}, body)
	f.Line, f.Col = 77, 7
	return append(trees(t, api.Prelude), module("M", append(slices.Clip(others), f)...))
}

// hidden is x, beside an expression of any type.
func hidden(n api.Node) api.Node {
	return node(api.ECase, n, node(api.EAlt, node(api.PWild), rightSide(variable("x"))))
}

// wantQuickly holds that f of x has that type, or an error.
func wantQuickly(t *testing.T, what, want string, body api.Node, others ...api.Node) {
	t.Helper()
	all, d := quickly(t, what, beside(t, body, others...)...)
	got := ""
	if d == (api.Diag{}) {
		got = all[len(all)-1].Type
	} else if got = errorText(d.Number); d.File != "M" || d.Line != 77 || d.Col != 7 {
		t.Error(what, d)
	}
	if got != want {
		t.Errorf("%s: got %.200s, want %s", what, got, want)
	}
}

// deepNames is the ways in which an expression can be deep.
const deepNames = "lambda same use let in-let in-let-use pattern-let where where-use left right if left-ops ops cons case scrutinee do gen slet put make sect sectleft tuple list share"

// deeper is an expression that is one level, or some, deeper than n.
func deeper(name string, n api.Node) api.Node {
	x, y, z, plus := variable("x"), named("y"), variable("z"), call(api.EOp, "+")
	switch name {
	case "lambda":
		return lambda(n, y)
	case "same":
		return lambda(n, named("x"))
	case "use":
		return lambda(apply(variable("const"), n, variable("y")), y)
	case "let":
		return let(n, function("y", nil, x))
	case "in-let":
		return let(x, function("y", nil, n))
	case "in-let-use":
		return let(apply(variable("y"), variable("y")), function("y", []api.Node{named("z")}, n))
	case "pattern-let":
		return let(x, node(api.DPat, node(api.PTup, y, node(api.PWild)), rightSide(node(api.ETup, x, n))))
	case "where":
		return node(api.ECase, x, node(api.EAlt, y, rightSide(x, function("z", nil, n))))
	case "where-use":
		return node(api.ECase, x, node(api.EAlt, y, rightSide(apply(variable("=="), z, z), function("z", nil, n))))
	case "left":
		return apply(variable("const"), n, x)
	case "right":
		return apply(variable("id"), n)
	case "if":
		return node(api.EIf, call(api.ECon, "True"), number(1), n)
	case "left-ops":
		return node(api.EOps, n, plus, number(1))
	case "ops":
		return node(api.EOps, number(1), plus, n)
	case "cons":
		return node(api.EList, node(api.EOps, n, call(api.EOp, "=="), node(api.EList)))
	case "case":
		return node(api.ECase, number(2), node(api.EAlt, y, rightSide(n)))
	case "scrutinee":
		return node(api.ECase, n, node(api.EAlt, y, rightSide(variable("y"))))
	case "do":
		return node(api.EDo, node(api.SGen, y, call(api.EStr, "a")), n)
	case "gen":
		return node(api.EDo, node(api.SGen, y, n), node(api.EList, variable("y")))
	case "slet":
		return node(api.EDo, node(api.SLet, list(function("y", nil, n))), x)
	case "put":
		return node(api.EPut, n, call(api.EField, "m", x))
	case "make":
		return call(api.EMake, "C", call(api.EField, "l", number(1)), call(api.EField, "m", n))
	case "sect":
		return apply(node(api.ERight, plus, n), number(1))
	case "sectleft":
		return apply(node(api.ELeft, n, plus), number(1))
	case "tuple":
		return node(api.ETup, x, n)
	case "share":
		return apply(lambda(n, y), node(api.ETup, variable("y"), variable("y")))
	}
	return node(api.EList, n)
}

// R4: expressions may have 2^16 levels.
func TestDeep(t *testing.T) {
	fields := list(call(api.DField, "l", call(api.TCon, "Int")), call(api.DField, "m", call(api.TVar, "a")))
	data := call(api.DData, "T", list(call(api.TVar, "a")), list(call(api.DCon, "C", fields)))
	seeds := map[string]api.Node{"do": call(api.EStr, "a"), "gen": call(api.EStr, "a"), "cons": node(api.EList), "put": variable("error"), "share": variable("y")}
	wrongs := map[string]api.Node{"ErrType": apply(number(1), number(1)), "ErrInstance": apply(variable("show"), variable("id")), "ErrAmbiguous": apply(variable("return"), number(1))}
	for _, name := range strings.Fields(deepNames) {
		seed, found := seeds[name]
		if !found {
			seed = number(1)
		}
		around := func(n api.Node) api.Node { return deeper(name, n) }
		whole := func(times int, seed api.Node) api.Node {
			return hidden(apply(lambda(nested(times, seed, around), named("y")), number(1)))
		}
		times := 1 << 16
		for range levels(around(seed)) - levels(seed) {
			times = max(times/2, 1<<14)
		}
		wantQuickly(t, name, "a -> a", whole(times, seed), data)
		for want, wrong := range wrongs {
			wantQuickly(t, name, want, whole(1<<12, node(api.ECase, wrong, node(api.EAlt, node(api.PWild), rightSide(seed)))), data)
		}
	}
}

// R4: patterns and types may be as deep.
func TestDeepParts(t *testing.T) {
	const times = 1 << 15
	inList := func(n api.Node) api.Node { return node(api.PList, n) }
	as := func(n api.Node) api.Node { return call(api.PAs, "y", n) }
	colon := api.Node{Kind: api.EOp, Name: ":", N: 1}
	cons := func(n api.Node) api.Node { return node(api.POps, node(api.PWild), colon, n) }
	for _, p := range []api.Node{nested(times, named("y"), inList), nested(times, named("y"), cons), as(nested(times, named("z"), inList))} {
		wantQuickly(t, "a pattern", "a -> a", hidden(lambda(number(1), p)))
	}
	bind := func(p api.Node) api.Node { return let(variable("x"), node(api.DPat, p, rightSide(variable("error")))) }
	wantQuickly(t, "a DPat", "a -> a", bind(nested(times, named("y"), inList)))
	wantQuickly(t, "a DPat with a name for it all", "ErrType", bind(as(nested(times, named("z"), inList))))
	wantQuickly(t, "a wrong pattern", "ErrType", hidden(lambda(number(1), nested(times, call(api.PCon, "Just"), inList))))
	a := call(api.TVar, "a")
	deep := nested(times, a, func(n api.Node) api.Node { return node(api.TApp, call(api.TCon, "[]"), n) })
	data := call(api.DData, "T", list(a), list(call(api.DCon, "C", list(a, deep))))
	wantQuickly(t, "a deep field", "a -> a", hidden(lambda(variable("y"), call(api.PCon, "C", named("y"), named("z")))), data)
	wantQuickly(t, "a deep field in the type of a name", "ErrType", let(variable("x"), function("z", nil, call(api.ECon, "C"))), data)
	class := call(api.DClass, "K", a, list(call(api.DMethod, "k", deep)))
	inst := func(methods ...api.Node) api.Node {
		return call(api.DInst, "K", list(), call(api.TCon, "Int"), list(methods...))
	}
	wantQuickly(t, "a deep method", "a -> a", hidden(variable("k")), class, inst())
	method := function("k", nil, node(api.EList))
	method.Line, method.Col = 77, 7
	wantQuickly(t, "a deep method of an instance", "ErrType", variable("x"), class, inst(method))
}

// R1: calls for deeper trees end too, even for those without an end.
func TestTooDeep(t *testing.T) {
	for _, name := range []string{"lambda", "in-let", "gen", "share"} {
		infer.Types(beside(t, nested(1<<18, number(1), func(n api.Node) api.Node { return deeper(name, n) }))...)
	}
	endless := apply(number(1), number(1))
	endless.Subs[0] = endless
	if all, d := infer.Types(beside(t, endless)...); d != (api.Diag{Number: api.ErrTree}) || len(all) != 0 {
		t.Error("a tree without an end:", d)
	}
}

// P9.1: sequences of very many operators, statements and declarations, from
// which trees result that are deeper than what was given.
func TestWide(t *testing.T) {
	const count = 100000
	long := func(operator string, operand, last api.Node) api.Node {
		var all []api.Node
		sign := call(api.EOp, operator)
		if operator == ":" {
			sign.N = 1
		}
		for range count {
			all = append(all, operand, sign)
		}
		return node(api.EOps, append(all, last)...)
	}
	x, y := variable("x"), variable("y")
	wantQuickly(t, "a sum", "a -> Int", long("+", number(1), number(2)))
	wantQuickly(t, "a wrong sum", "ErrType", long("+", number(1), node(api.EList)))
	wantQuickly(t, "a list", "a -> [a]", long(":", x, node(api.EList)))
	wantQuickly(t, "a conjunction", "Eq a => a -> Bool", long("&&", node(api.EOps, x, call(api.EOp, "=="), x), call(api.ECon, "True")))
	statements := slices.Repeat([]api.Node{node(api.SGen, named("y"), x), node(api.SLet, list(function("z", []api.Node{named("y")}, y)))}, count/2)
	wantQuickly(t, "statements", "Monad a => a b -> a b", node(api.EDo, append(statements, apply(variable("z"), x))...))
	wantQuickly(t, "wrong statements", "ErrType", node(api.EDo, append(statements, number(1))...))
	wantQuickly(t, "elements", "a -> [a]", node(api.EList, slices.Repeat([]api.Node{x}, count)...))
	wantQuickly(t, "arguments", "ErrType", lambda(x, slices.Repeat([]api.Node{node(api.PWild)}, count)...))
	wantQuickly(t, "hidden arguments", "a -> a", hidden(lambda(x, slices.Repeat([]api.Node{node(api.PWild)}, count)...)))
}

// many is declarations g0, g1 and so on; each is told the next one's name.
func many(count int, make func(name, next string) api.Node) []api.Node {
	var all []api.Node
	for i := range count {
		all = append(all, make("g"+strconv.Itoa(i), "g"+strconv.Itoa((i+1)%count)))
	}
	return all
}

// P9.1: very many declarations, each a group or all of them one, at the top and
// locally.
func TestManyDeclarations(t *testing.T) {
	const count = 30000
	y, ys := variable("y"), []api.Node{named("y")}
	equal := func(next string) api.Node {
		return apply(variable("const"), apply(variable(next), y), node(api.EOps, y, call(api.EOp, "=="), y))
	}
	ring := many(count, func(name, next string) api.Node { return function(name, ys, equal(next)) })
	alone := many(count, func(name, next string) api.Node { return function(name, ys, y) })
	chain := many(count, func(name, next string) api.Node {
		if next == "g0" {
			return function(name, ys, y)
		}
		return function(name, ys, equal(next))
	})
	chain = append(chain[1:], chain[0])
	backwards := slices.Clone(chain)
	slices.Reverse(backwards)
	for what, all := range map[string][]api.Node{"a ring": ring, "alone": alone, "a chain": chain, "backwards": backwards} {
		pair := node(api.ETup, apply(variable("g0"), number(1)), apply(variable("g0"), variable("x")))
		want := map[string]string{"a ring": "Eq a => a -> (b, c)", "alone": "a -> (Int, a)", "a chain": "Eq a => a -> (Int, a)", "backwards": "Eq a => a -> (Int, a)"}[what]
		wantQuickly(t, what, want, pair, all...)
		wantQuickly(t, what+" locally", want, let(pair, all...))
		wrong := node(api.ETup, apply(variable("g0"), variable("g0")), number(1))
		if what != "alone" {
			wantQuickly(t, what+" wrong", "ErrInstance", wrong, all...)
			wantQuickly(t, what+" wrong locally", "ErrInstance", let(wrong, all...))
		}
	}
}

// Types that would be far greater than can be built.
func TestDoubling(t *testing.T) {
	const times = 10000
	y := variable("y")
	pair := node(api.ETup, y, y)
	chain := func(seed api.Node) api.Node {
		return nested(times, seed, func(n api.Node) api.Node { return apply(lambda(n, named("y")), pair) })
	}
	start := func(n api.Node) api.Node { return apply(lambda(n, named("y")), variable("x")) }
	wantQuickly(t, "a great type", "a -> a", hidden(start(chain(y))))
	wantQuickly(t, "two great types", "a -> a", hidden(node(api.EList, start(chain(y)), start(chain(y)))))
	wantQuickly(t, "two of which one is greater", "ErrType", hidden(node(api.EList, start(chain(y)), start(chain(pair)))))
	wantQuickly(t, "two with other ends", "ErrType", hidden(node(api.EList, apply(lambda(chain(y), named("y")), number(1)), apply(lambda(chain(y), named("y")), node(api.EList)))))
	wantQuickly(t, "what comes to be a part of itself", "ErrType", hidden(start(chain(node(api.EList, y, variable("x"))))))
	wantQuickly(t, "a great type of the name", "ErrType", start(chain(y)))
	wantQuickly(t, "a great type of a local name", "ErrType", hidden(start(chain(let(number(1), function("z", nil, y))))))
	lets := nested(times, variable("x"), func(n api.Node) api.Node { return let(n, function("z", nil, pair)) })
	wantQuickly(t, "many pairs", "a -> a", hidden(lambda(lets, named("y"))))
	var steps []api.Node
	for i := range times {
		z := variable("z" + strconv.Itoa(i))
		steps = append(steps, node(api.SLet, list(function("z"+strconv.Itoa(i+1), nil, node(api.ETup, z, z)))))
	}
	steps = append(steps, variable("x"))
	wantQuickly(t, "each a pair of the one before", "ErrType", apply(lambda(node(api.EDo, steps...), named("z0")), number(1)))
	// A pred of such a type expands to too many, if its parts are required.
	wantQuickly(t, "a pred of a great type", "ErrType", hidden(start(chain(node(api.EOps, y, call(api.EOp, "=="), y)))))
	class := declared(t, "class K a where { k :: a -> Int }\ninstance K (a, b) where\n")
	wantQuickly(t, "a pred that requires nothing", "a -> a", hidden(start(chain(apply(variable("k"), y)))), class...)
	// Preds of such types of variables, which are told to be the same.
	bind := node(api.EOps, apply(variable("return"), y), call(api.EOp, "=="), variable("m"))
	both := node(api.ETup, lambda(bind, named("m")), lambda(bind, named("m")))
	wantQuickly(t, "a pred of what is applied to it", "ErrAmbiguous", hidden(start(chain(both))))
	// A local name keeps such a pred: what it is of is copied.
	class = declared(t, "class K a where { k :: a -> Int }\ninstance K (Maybe a) where\ninstance Eq a => K [a] where\n")
	inner := chain(apply(variable("k"), node(api.EOps, variable("m"), call(api.EOp, ">>="), lambda(apply(variable("return"), y), node(api.PWild)))))
	g := function("g", []api.Node{named("m"), named("y")}, inner)
	wantQuickly(t, "a kept pred", "a -> Int", let(apply(variable("g"), apply(call(api.ECon, "Just"), number(1)), variable("x")), g), class...)
	wantQuickly(t, "a kept pred that requires many", "ErrType", let(apply(variable("g"), node(api.EList, number(1)), variable("x")), g), class...)
}

// Preds of very many variables, through very many levels of groups.
func TestManyPreds(t *testing.T) {
	const count = 3000
	equal := func(name string) api.Node { return node(api.EOps, variable(name), call(api.EOp, "=="), variable(name)) }
	var all []api.Node
	for i := range count {
		all = append(all, equal("y"+strconv.Itoa(i)))
	}
	n := node(api.EList, all...)
	for i := range count {
		name := strconv.Itoa(count - 1 - i)
		n = let(variable("g"+name), function("g"+name, []api.Node{named("y" + name)}, constant(n)))
	}
	wantQuickly(t, "all at the innermost level", "a -> a", hidden(n))
	// Each of h0, h1 and so on uses the one before it twice, and keeps preds with
	// a variable that its type does not tell.
	first := "h0 = let (u, _) = (\\m -> seq (c (m >>= \\_ -> return error)) m, 1) in u\n"
	class := declared(t, "class C a where { c :: a -> Int }\ninstance C (Maybe a) where\ninstance Eq a => C [a] where\n")
	steps := []api.Node{node(api.SLet, list(declared(t, first)...))}
	for i := range count {
		before, name := variable("h"+strconv.Itoa(i)), "h"+strconv.Itoa(i+1)
		steps = append(steps, node(api.SLet, list(function(name, []api.Node{named("m")}, apply(before, apply(before, variable("m")))))))
	}
	h := variable("h" + strconv.Itoa(count))
	end := func(n api.Node) api.Node { return node(api.EDo, append(slices.Clip(steps), n)...) }
	wantQuickly(t, "a list", "ErrAmbiguous", end(apply(h, node(api.EList, variable("x")))), class...)
	wantQuickly(t, "an IO", "ErrInstance", end(apply(h, variable("getByte"))), class...)
}
