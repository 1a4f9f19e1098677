package unify_test

import (
	"slices"
	"strings"
	"testing"

	"teasel/api"
	"teasel/unify"
)

func variable(name string) api.Type {
	return api.Type{Kind: api.TVar, Name: name}
}

func con(name string) api.Type {
	return api.Type{Kind: api.TCon, Name: name}
}

func app(function api.Type, arguments ...api.Type) api.Type {
	for _, a := range arguments {
		function = api.Type{Kind: api.TApp, Subs: []api.Type{function, a}}
	}
	return function
}

// read is a type as a test writes it: names that begin with a small letter are
// TVars, all others TCons; what stands behind a type is its argument. The
// signs ->, [], (,) and (,,) are those of Prim, and nothing is written between
// arguments.
func read(text string) api.Type {
	for _, sign := range []string{"(,,)", "(,)"} {
		text = strings.ReplaceAll(text, sign, strings.NewReplacer("(", "<", ")", ">").Replace(sign))
	}
	text = strings.NewReplacer("(", " ( ", ")", " ) ").Replace(text)
	t, left := readTokens(strings.Fields(text))
	if len(left) != 0 {
		panic("what stands behind a type: " + strings.Join(left, " "))
	}
	return t
}

func readTokens(tokens []string) (api.Type, []string) {
	var all []api.Type
	for len(tokens) > 0 && tokens[0] != ")" {
		var next api.Type
		if tokens[0] == "(" {
			next, tokens = readTokens(tokens[1:])
		} else {
			next = readName(tokens[0])
		}
		all, tokens = append(all, next), tokens[1:]
	}
	return app(all[0], all[1:]...), tokens
}

func readName(token string) api.Type {
	switch token {
	case "->", "[]":
		return con("Prim." + token)
	case "<,>", "<,,>":
		return con("Prim." + strings.NewReplacer("<", "(", ">", ")").Replace(token))
	}
	if 'a' <= token[0] && token[0] <= 'z' {
		return variable(token)
	}
	return con(token)
}

// say is a type as read takes it.
func say(t api.Type) string {
	if t.Kind != api.TApp {
		return strings.TrimPrefix(t.Name, "Prim.")
	}
	argument := say(t.Subs[1])
	if t.Subs[1].Kind == api.TApp {
		argument = "(" + argument + ")"
	}
	return say(t.Subs[0]) + " " + argument
}

// sayAll is subs: the Name, =, the Type, and a ; between any two.
func sayAll(subs []api.Sub) string {
	var texts []string
	for _, s := range subs {
		texts = append(texts, s.Name+" = "+say(s.Type))
	}
	return strings.Join(texts, "; ")
}

// readSubs reads subs as sayAll says them.
func readSubs(text string) []api.Sub {
	var all []api.Sub
	for part := range strings.SplitSeq(text, ";") {
		if name, t, found := strings.Cut(part, "="); found {
			all = append(all, api.Sub{Name: strings.TrimSpace(name), Type: read(t)})
		}
	}
	return all
}

// readPairs reads pairs: a type, ~, another one, and a ; between any two.
func readPairs(text string) [][2]api.Type {
	var all [][2]api.Type
	for part := range strings.SplitSeq(text, ";") {
		if a, b, found := strings.Cut(part, "~"); found {
			all = append(all, [2]api.Type{read(a), read(b)})
		}
	}
	return all
}

// alike says whether two types are the same, and have no field that types like
// them do not use.
func alike(a, b api.Type) bool {
	return a.Kind == b.Kind && a.Name == b.Name && slices.EqualFunc(a.Subs, b.Subs, alike)
}

// unified is what Unify answers, as a text: subs, or the number of an error.
func unified(t *testing.T, pairs ...[2]api.Type) string {
	t.Helper()
	subs, errno := unify.Unify(pairs...)
	return outcome(t, subs, errno)
}

// matched is likewise for Match.
func matched(t *testing.T, a, b api.Type) string {
	t.Helper()
	subs, errno := unify.Match(a, b)
	return outcome(t, subs, errno)
}

func outcome(t *testing.T, subs []api.Sub, errno api.Errno) string {
	t.Helper()
	if errno == api.OK {
		return sayAll(subs)
	}
	if len(subs) != 0 {
		t.Errorf("%v beside %v", sayAll(subs), errno)
	}
	switch errno {
	case api.ErrArg:
		return "ErrArg"
	case api.ErrBig:
		return "ErrBig"
	case api.ErrUnify:
		return "ErrUnify"
	}
	return errno.Error()
}

// wantUnified holds what Unify answers for pairs, whichever side of each is
// first and in whatever order they are.
func wantUnified(t *testing.T, want string, pairs ...[2]api.Type) {
	t.Helper()
	if got := unified(t, pairs...); got != want {
		t.Errorf("%s: got %.200s, want %.200s", sayPairs(pairs), got, want)
	}
	turned := slices.Clone(pairs)
	for i, p := range turned {
		turned[i] = [2]api.Type{p[1], p[0]}
	}
	if got := unified(t, turned...); got != want {
		t.Errorf("%s, turned round: got %.200s, want %.200s", sayPairs(pairs), got, want)
	}
	slices.Reverse(turned)
	if got := unified(t, turned...); got != want {
		t.Errorf("%s, turned round and in the other order: got %.200s, want %.200s", sayPairs(pairs), got, want)
	}
}

// sayPairs tells some pairs, unless they are great.
func sayPairs(pairs [][2]api.Type) string {
	if len(pairs) > 10 {
		return "many pairs"
	}
	var texts []string
	for _, p := range pairs {
		if unify.Check(p[0]) != api.OK || unify.Check(p[1]) != api.OK {
			return "pairs with a wrong type"
		}
		texts = append(texts, say(p[0])+" ~ "+say(p[1]))
	}
	return strings.Join(texts, "; ")
}

// great is a type with that many nodes, which must be an odd number: inner,
// which is a TVar or TCon, with as many arguments as it takes.
func great(nodes int, inner api.Type) api.Type {
	for range (nodes - 1) / 2 {
		inner = app(inner, con("A"))
	}
	return inner
}

// wrongTypes are those that are no valid ones.
func wrongTypes() map[string]api.Type {
	a, b := variable("a"), con("B")
	tapp := func(name string, subs ...api.Type) api.Type {
		return api.Type{Kind: api.TApp, Name: name, Subs: subs}
	}
	endless := app(a, b)
	endless.Subs[0] = endless
	endlessArgument := app(a, b)
	endlessArgument.Subs[1] = app(b, app(a, endlessArgument))
	all := map[string]api.Type{
		"zero":                  {},
		"a TVar without a Name": {Kind: api.TVar},
		"a TCon without a Name": {Kind: api.TCon},
		"a TVar with a Sub":     {Kind: api.TVar, Name: "a", Subs: []api.Type{b}},
		"a TVar with Subs":      {Kind: api.TVar, Name: "a", Subs: []api.Type{a, b}},
		"a TCon with a Sub":     {Kind: api.TCon, Name: "A", Subs: []api.Type{a}},
		"a TCon with Subs":      {Kind: api.TCon, Name: "A", Subs: []api.Type{a, b}},
		"a TApp with a Name":    tapp("A", a, b),
		"a TApp without Subs":   tapp(""),
		"a TApp of one":         tapp("", a),
		"a TApp of three":       tapp("", a, b, a),
		"a PVar":                {Kind: api.PVar, Name: "a"},
		"a Kind beyond TApp":    {Kind: api.TApp + 1, Subs: []api.Type{a, b}},
		"a Kind below 0":        {Kind: -1, Name: "a"},
		"one without an end":    endless,
		"a later one":           endlessArgument,
	}
	for name, inner := range map[string]api.Type{"zero": {}, "TApp of one": tapp("", a)} {
		all[name+" as a function"] = tapp("", inner, a)
		all[name+" as an argument"] = tapp("", a, inner)
		all[name+" further in"] = app(b, app(app(a, inner), b), a)
		all[name+" in a great one"] = app(great(2001, a), inner)
	}
	return all
}
