package infer_test

import (
	"strings"
	"testing"
	"time"

	"teasel/api"
	"teasel/infer"
)

func node(kind int, subs ...api.Node) api.Node {
	return api.Node{Kind: kind, Subs: subs}
}

func call(kind int, name string, subs ...api.Node) api.Node {
	return api.Node{Kind: kind, Name: name, Subs: subs}
}

func list(subs ...api.Node) api.Node {
	return node(api.List, subs...)
}

func module(name string, declarations ...api.Node) api.Node {
	return call(api.DMod, name, node(api.None), list(), list(declarations...))
}

func function(name string, patterns []api.Node, body api.Node, where ...api.Node) api.Node {
	return call(api.DFun, name, node(api.DClause, list(patterns...), rightSide(body, where...)))
}

func rightSide(body api.Node, where ...api.Node) api.Node {
	return node(api.DRhs, list(node(api.DGuard, node(api.None), body)), list(where...))
}

func variable(name string) api.Node { return call(api.EVar, name) }
func named(name string) api.Node    { return call(api.PVar, name) }
func number(n int) api.Node         { return api.Node{Kind: api.EInt, N: n} }

func apply(f api.Node, arguments ...api.Node) api.Node {
	for _, a := range arguments {
		f = node(api.EApp, f, a)
	}
	return f
}

// nested is something in which the same stands so many times, one in another.
func nested(times int, inner api.Node, around func(api.Node) api.Node) api.Node {
	for range times {
		inner = around(inner)
	}
	return inner
}

// quickly is what Types answers, within some time.
func quickly(t *testing.T, what string, mods ...api.Node) ([]api.Typed, api.Diag) {
	t.Helper()
	start := time.Now()
	all, d := infer.Types(mods...)
	if d.Number != api.OK && len(all) != 0 {
		t.Fatal(what, "has types beside an error:", say(all))
	}
	took := time.Since(start)
	t.Log(what, took)
	if took > 30*time.Second {
		t.Errorf("%s took %v", what, took)
	}
	return all, d
}

// beside is the Prelude, and a module M with a function of x beside some others.
func beside(t *testing.T, body api.Node, others ...api.Node) []api.Node {
	t.Helper()
	f := function("f", []api.Node{named("x")}, body)
	f.Line, f.Col = 77, 7
	return append(trees(t, api.Prelude), module("M", append(others, f)...))
}

// hidden is an expression whose type is not that of the whole.
func hidden(n api.Node) api.Node {
	return node(api.ECase, n, node(api.EAlt, node(api.PWild), rightSide(variable("x"))))
}

// deepNames is the ways in which an expression can be deep.
const deepNames = "lambda same use let in-let in-let-use pattern-let where where-use left right if left-ops ops cons case scrutinee do gen slet put make sect sectleft tuple list share"

// deep is an expression with something in it so many times.
func deep(name string, times int) api.Node {
	x, y, plus := variable("x"), named("y"), call(api.EOp, "+")
	seed := number(1)
	at := times
	around := func(n api.Node) api.Node {
		at--
		switch name {
		case "lambda":
			return node(api.ELam, list(y), n)
		case "same":
			return node(api.ELam, list(named("x")), n)
		case "use":
			return node(api.ELam, list(y), apply(variable("const"), n, variable("y")))
		case "let":
			return node(api.ELet, list(function("y", nil, x)), n)
		case "in-let":
			return node(api.ELet, list(function("y", nil, n)), x)
		case "in-let-use":
			return node(api.ELet, list(function("y", []api.Node{named("z")}, n)), apply(variable("y"), variable("y")))
		case "pattern-let":
			return node(api.ELet, list(node(api.DPat, node(api.PTup, y, node(api.PWild)), rightSide(node(api.ETup, n, n)))), x)
		case "where":
			return node(api.ECase, x, node(api.EAlt, y, rightSide(x, function("z", nil, n))))
		case "where-use":
			return node(api.ECase, x, node(api.EAlt, y, rightSide(apply(variable("=="), variable("z"), variable("z")), function("z", nil, n))))
		case "left":
			return apply(variable("const"), n, x)
		case "right":
			return apply(variable("id"), n)
		case "if":
			return node(api.EIf, call(api.ECon, "True"), number(1), n)
		case "left-ops":
			return node(api.EOps, n, plus, number(1))
		case "ops":
			return node(api.EOps, number(1), plus, n)
		case "cons":
			return node(api.EList, node(api.EOps, x, call(api.EOp, "=="), x, call(api.EOp, "&&"), node(api.EOps, n, call(api.EOp, "=="), node(api.EList))))
		case "case":
			return node(api.ECase, number(2), node(api.EAlt, y, rightSide(n)))
		case "scrutinee":
			return node(api.ECase, n, node(api.EAlt, y, rightSide(variable("y"))))
		case "do":
			return node(api.EDo, node(api.SGen, y, call(api.EStr, "a")), n)
		case "gen":
			return node(api.EDo, node(api.SGen, y, n), node(api.EList, variable("y")))
		case "slet":
			return node(api.EDo, node(api.SLet, list(function("y", nil, n))), x)
		case "put":
			return node(api.EPut, n, call(api.EField, "l", x))
		case "make":
			return call(api.EMake, "C", call(api.EField, "l", x), call(api.EField, "m", n))
		case "sect":
			return apply(node(api.ERight, plus, n), number(1))
		case "sectleft":
			return apply(node(api.ELeft, n, plus), number(1))
		case "tuple":
			return node(api.ETup, x, n)
		case "share":
			return apply(node(api.ELam, list(y), n), node(api.ETup, variable("y"), variable("y")))
		}
		return node(api.EList, n)
	}
	switch name {
	case "do", "gen":
		seed = call(api.EStr, "a")
	case "put":
		seed = x
	case "cons":
		return hidden(nested(times/8, seed, around))
	}
	return nested(times, seed, around)
}

// R4: expressions may have 2^16 levels.
func TestDeep(t *testing.T) {
	data := call(api.DData, "T", list(call(api.TVar, "a")), list(call(api.DCon, "C", list(call(api.DField, "l", call(api.TCon, "Int")), call(api.DField, "m", call(api.TVar, "a"))))))
	for _, name := range strings.Fields(deepNames) {
		times := 1 << 16
		e := hidden(deep(name, times))
		if name == "share" {
			e = node(api.ELam, list(named("y")), e)
			e = hidden(e)
		}
		all, d := quickly(t, name, beside(t, e, data)...)
		t.Log(name, diagText(d), say(all))
	}
}
