package kinds_test

import (
	"strconv"
	"strings"
	"testing"

	"teasel/api"
	"teasel/kinds"
	"teasel/layout"
	"teasel/lex"
	"teasel/parse"
)

func node(kind int, subs ...api.Node) api.Node {
	return api.Node{Kind: kind, Subs: subs}
}

func call(kind int, name string, subs ...api.Node) api.Node {
	return api.Node{Kind: kind, Name: name, Subs: subs}
}

func list(subs ...api.Node) api.Node {
	return node(api.List, subs...)
}

func module(name string, declarations ...api.Node) api.Node {
	return call(api.DMod, name, node(api.None), list(), list(declarations...))
}

// importing is a module that imports others.
func importing(m api.Node, names ...string) api.Node {
	var imports []api.Node
	for _, name := range names {
		imports = append(imports, call(api.DImport, name, node(api.None)))
	}
	m.Subs = []api.Node{m.Subs[0], list(imports...), m.Subs[2]}
	return m
}

func variable(name string) api.Node {
	return call(api.TVar, name)
}

func con(name string) api.Node {
	return call(api.TCon, name)
}

// applied is a type applied to others.
func applied(function api.Node, arguments ...api.Node) api.Node {
	for _, a := range arguments {
		function = node(api.TApp, function, a)
	}
	return function
}

func function(from, to api.Node) api.Node {
	return applied(con("->"), from, to)
}

// data is a DData with variables, of one name each, and one constructor with
// these types.
func data(name, variables string, types ...api.Node) api.Node {
	return call(api.DData, name, list(named(variables)...), list(call(api.DCon, "C"+name, list(types...))))
}

func named(variables string) []api.Node {
	var all []api.Node
	for _, v := range strings.Fields(variables) {
		all = append(all, variable(v))
	}
	return all
}

// class is a DClass with methods of these types.
func class(name, v string, types ...api.Node) api.Node {
	var methods []api.Node
	for i, n := range types {
		methods = append(methods, call(api.DMethod, "m"+strings.ToLower(name)+strconv.Itoa(i), n))
	}
	return call(api.DClass, name, variable(v), list(methods...))
}

// instance is a DInst without functions.
func instance(name string, n api.Node, preds ...api.Node) api.Node {
	return call(api.DInst, name, list(preds...), n, list())
}

func at(n api.Node, line, col int) api.Node {
	n.Line, n.Col = line, col
	return n
}

// tree is that of a module's text.
func tree(t *testing.T, text string) api.Node {
	t.Helper()
	ts, d := lex.Read(text)
	if d == (api.Diag{}) {
		ts, d = layout.Lay(ts)
	}
	var n api.Node
	if d == (api.Diag{}) {
		n, d = parse.Parse(ts)
	}
	if d != (api.Diag{}) {
		t.Fatalf("%q: %+v", text, d)
	}
	return n
}

func trees(t *testing.T, texts ...string) []api.Node {
	t.Helper()
	var all []api.Node
	for _, text := range texts {
		all = append(all, tree(t, text))
	}
	return all
}

// say is a list of kinds: a name, ::, the kind, and a ; between any two.
func say(all []api.Kinded) string {
	var texts []string
	for _, k := range all {
		texts = append(texts, k.Name+" :: "+k.Kind)
	}
	return strings.Join(texts, "; ")
}

// kindsOf is what Kinds answers for modules in which nothing is wrong.
func kindsOf(t *testing.T, mods ...api.Node) string {
	t.Helper()
	all, d := kinds.Kinds(mods...)
	if d != (api.Diag{}) {
		t.Fatalf("%+v", d)
	}
	return say(all)
}

// wantKinds holds that the declarations of a module M have these kinds, by
// their names without M.
func wantKinds(t *testing.T, declarations, want string) {
	t.Helper()
	all, d := kinds.Kinds(tree(t, "module M where\n"+declarations))
	if d != (api.Diag{}) {
		t.Errorf("%q: %+v", declarations, d)
		return
	}
	if got := strings.ReplaceAll(say(all), "M.", ""); got != want {
		t.Errorf("%q:\ngot  %s\nwant %s", declarations, got, want)
	}
}

// diagOf is the error that Kinds must answer beside no kinds.
func diagOf(t *testing.T, mods ...api.Node) api.Diag {
	t.Helper()
	all, d := kinds.Kinds(mods...)
	if d.Number != api.OK && len(all) != 0 {
		t.Fatal("kinds beside an error:", say(all))
	}
	return d
}

// wantWrong holds that modules have that error where a § stands.
func wantWrong(t *testing.T, number api.Errno, texts ...string) {
	t.Helper()
	var mods []api.Node
	var want api.Diag
	for _, text := range texts {
		before, after, found := strings.Cut(text, "§")
		mods = append(mods, tree(t, before+after))
		if found {
			want.File = mods[len(mods)-1].Name
			want.Line = 1 + strings.Count(before, "\n")
			want.Col = len(before) - strings.LastIndex(before, "\n")
			want.Number = number
		}
	}
	if want.Number == api.OK {
		t.Fatal("no § in", texts)
	}
	if got := diagOf(t, mods...); got != want {
		t.Errorf("%q:\ngot  %+v\nwant %+v", texts, got, want)
	}
}

// wantKindError is for a module M that needs no other one.
func wantKindError(t *testing.T, declarations string) {
	t.Helper()
	wantWrong(t, api.ErrKind, "module M where\n"+declarations)
}
