package fix_test

import (
	"testing"

	"teasel/api"
)

func node(kind int, subs ...api.Node) api.Node {
	return api.Node{Kind: kind, Subs: subs}
}

func call(kind int, name string, subs ...api.Node) api.Node {
	return api.Node{Kind: kind, Name: name, Subs: subs}
}

func list(subs ...api.Node) api.Node {
	return node(api.List, subs...)
}

func module(name string, declarations ...api.Node) api.Node {
	return call(api.DMod, name, node(api.None), list(), list(declarations...))
}

func function(name string, patterns []api.Node, body api.Node, where ...api.Node) api.Node {
	return call(api.DFun, name, node(api.DClause, list(patterns...), rightSide(body, where...)))
}

func rightSide(body api.Node, where ...api.Node) api.Node {
	return node(api.DRhs, list(node(api.DGuard, node(api.None), body)), list(where...))
}

// operator is an EOp; a constructor's, if its name says so.
func operator(name string) api.Node {
	n := call(api.EOp, name)
	if name[0] == ':' || 'A' <= name[0] && name[0] <= 'Z' {
		n.N = 1
	}
	return n
}

func fixity(keyword string, level int, names ...string) api.Node {
	n := api.Node{Kind: api.DFix, Name: keyword, N: level}
	var ops []api.Node
	for _, name := range names {
		ops = append(ops, operator(name))
	}
	n.Subs = []api.Node{list(ops...)}
	return n
}

// wantSame holds that two modules are mended to the same, but for positions.
func wantSame(t *testing.T, text, other string) {
	t.Helper()
	got, want := mended(t, tree(t, text)), mended(t, tree(t, other))
	unplace := func(n *api.Node) { n.Line, n.Col = 0, 0 }
	every(got, unplace)
	every(want, unplace)
	if got, want := sayTrees(got), sayTrees(want); got != want {
		t.Errorf("%s\ngot  %s\nwant %s", text, got, want)
	}
}
