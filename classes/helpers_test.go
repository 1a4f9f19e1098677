package classes_test

import (
	"slices"
	"strconv"
	"strings"
	"testing"

	"teasel/api"
	"teasel/classes"
	"teasel/layout"
	"teasel/lex"
	"teasel/parse"
)

// tree is that of a module's text.
func tree(t *testing.T, text string) api.Node {
	t.Helper()
	ts, d := lex.Read(text)
	if d == (api.Diag{}) {
		ts, d = layout.Lay(ts)
	}
	var n api.Node
	if d == (api.Diag{}) {
		n, d = parse.Parse(ts)
	}
	if d != (api.Diag{}) {
		t.Fatalf("%q: %+v", text, d)
	}
	return n
}

func trees(t *testing.T, texts ...string) []api.Node {
	t.Helper()
	var all []api.Node
	for _, text := range texts {
		all = append(all, tree(t, text))
	}
	return all
}

func variable(name string) api.Type {
	return api.Type{Kind: api.TVar, Name: name}
}

func con(name string) api.Type {
	return api.Type{Kind: api.TCon, Name: name}
}

func app(function api.Type, arguments ...api.Type) api.Type {
	for _, a := range arguments {
		function = api.Type{Kind: api.TApp, Subs: []api.Type{function, a}}
	}
	return function
}

// read is a type as a test writes it: names that begin with a small letter are
// TVars, all others TCons; what stands behind a type is its argument. The
// signs ->, [], (), (,) and (,,) and Int are those of Prim.
func read(text string) api.Type {
	for _, sign := range []string{"(,,)", "(,)", "()"} {
		text = strings.ReplaceAll(text, sign, strings.NewReplacer("(", "<", ")", ">").Replace(sign))
	}
	text = strings.NewReplacer("(", " ( ", ")", " ) ").Replace(text)
	t, left := readTokens(strings.Fields(text))
	if len(left) != 0 {
		panic("what stands behind a type: " + strings.Join(left, " "))
	}
	return t
}

func readTokens(tokens []string) (api.Type, []string) {
	var all []api.Type
	for len(tokens) > 0 && tokens[0] != ")" {
		var next api.Type
		if tokens[0] == "(" {
			next, tokens = readTokens(tokens[1:])
		} else {
			next = readName(tokens[0])
		}
		all, tokens = append(all, next), tokens[1:]
	}
	return app(all[0], all[1:]...), tokens
}

func readName(token string) api.Type {
	if 'a' <= token[0] && token[0] <= 'z' {
		return variable(token)
	}
	return con(readCon(token))
}

func readCon(token string) string {
	switch token {
	case "->", "[]", "Int", "(,)", "(,,)":
		return "Prim." + token
	case "<>", "<,>", "<,,>":
		return "Prim." + strings.NewReplacer("<", "(", ">", ")").Replace(token)
	}
	return token
}

// say is a type as read takes it.
func say(t api.Type) string {
	if t.Kind != api.TApp {
		return strings.TrimPrefix(t.Name, "Prim.")
	}
	argument := say(t.Subs[1])
	if t.Subs[1].Kind == api.TApp {
		argument = "(" + argument + ")"
	}
	return say(t.Subs[0]) + " " + argument
}

// alike says whether two types are the same, and have no field that types like
// them do not use.
func alike(a, b api.Type) bool {
	return a.Kind == b.Kind && a.Name == b.Name && slices.EqualFunc(a.Subs, b.Subs, alike)
}

// readPreds reads preds: a class, a type, and a ; between any two.
func readPreds(text string) []api.Pred {
	var all []api.Pred
	for part := range strings.SplitSeq(text, ";") {
		if class, of, found := strings.Cut(strings.TrimSpace(part), " "); found {
			all = append(all, api.Pred{Class: class, Type: read(of)})
		}
	}
	return all
}

func sayPreds(preds []api.Pred) string {
	var texts []string
	for _, p := range preds {
		texts = append(texts, p.Class+" "+say(p.Type))
	}
	return strings.Join(texts, "; ")
}

func saySubs(subs []api.Sub) string {
	var texts []string
	for _, s := range subs {
		texts = append(texts, s.Name+" = "+say(s.Type))
	}
	return strings.Join(texts, "; ")
}

// readInsts reads instances: a class, a constructor, the number of arguments,
// what these need, by their class and their place, and a ; between any two.
func readInsts(text string) []api.Inst {
	var all []api.Inst
	for part := range strings.SplitSeq(text, ";") {
		words := strings.Fields(part)
		if len(words) == 0 {
			continue
		}
		inst := api.Inst{Class: words[0], Con: readCon(words[1]), Args: number(words[2])}
		for w := words[3:]; len(w) > 0; w = w[2:] {
			inst.Needs = append(inst.Needs, api.Need{Class: w[0], Arg: number(w[1])})
		}
		all = append(all, inst)
	}
	return all
}

func number(text string) int {
	n, err := strconv.Atoi(text)
	if err != nil {
		panic(err)
	}
	return n
}

// sayInsts is instances as readInsts takes them.
func sayInsts(insts []api.Inst) string {
	var texts []string
	for _, i := range insts {
		text := i.Class + " " + i.Con + " " + strconv.Itoa(i.Args)
		for _, need := range i.Needs {
			text += " " + need.Class + " " + strconv.Itoa(need.Arg)
		}
		texts = append(texts, text)
	}
	return strings.Join(texts, "; ")
}

// errorText is an error's name, or an empty text.
func errorText(errno api.Errno) string {
	switch errno {
	case api.OK:
		return ""
	case api.ErrArg:
		return "ErrArg"
	case api.ErrBig:
		return "ErrBig"
	case api.ErrInstance:
		return "ErrInstance"
	case api.ErrAmbiguous:
		return "ErrAmbiguous"
	}
	return errno.Error()
}

// reduced is what Reduce answers, as a text: preds, or an error.
func reduced(t *testing.T, insts []api.Inst, preds ...api.Pred) string {
	t.Helper()
	left, errno := classes.Reduce(insts, preds...)
	if errno != api.OK && len(left) != 0 {
		t.Errorf("%s beside %s", sayPreds(left), errorText(errno))
	}
	return errorText(errno) + sayPreds(left)
}

// defaulted is likewise for Default.
func defaulted(t *testing.T, insts []api.Inst, preds ...api.Pred) string {
	t.Helper()
	subs, errno := classes.Default(insts, preds...)
	if errno != api.OK && len(subs) != 0 {
		t.Errorf("%s beside %s", saySubs(subs), errorText(errno))
	}
	return errorText(errno) + saySubs(subs)
}

// wantReduced holds what Reduce answers.
func wantReduced(t *testing.T, insts, preds, want string) {
	t.Helper()
	if got := reduced(t, readInsts(insts), readPreds(preds)...); got != want {
		t.Errorf("%s, by %s: got %q, want %q", preds, insts, got, want)
	}
}

// wantDefaulted holds what Default answers.
func wantDefaulted(t *testing.T, insts, preds, want string) {
	t.Helper()
	if got := defaulted(t, readInsts(insts), readPreds(preds)...); got != want {
		t.Errorf("%s, by %s: got %q, want %q", preds, insts, got, want)
	}
}

// wantInsts holds that the instances of some modules are these.
func wantInsts(t *testing.T, want string, texts ...string) {
	t.Helper()
	insts, d := classes.Insts(trees(t, texts...)...)
	if d != (api.Diag{}) {
		t.Errorf("%q: %+v", texts, d)
		return
	}
	if got := sayInsts(insts); got != want {
		t.Errorf("%q:\ngot  %s\nwant %s", texts, got, want)
	}
}

// wantWrong holds that modules have that error where a § stands.
func wantWrong(t *testing.T, number api.Errno, texts ...string) {
	t.Helper()
	var mods []api.Node
	var want api.Diag
	for _, text := range texts {
		before, after, found := strings.Cut(text, "§")
		mods = append(mods, tree(t, before+after))
		if found {
			want.File = mods[len(mods)-1].Name
			want.Line = 1 + strings.Count(before, "\n")
			want.Col = len(before) - strings.LastIndex(before, "\n")
			want.Number = number
		}
	}
	if want.Number == api.OK {
		t.Fatal("no § in", texts)
	}
	insts, got := classes.Insts(mods...)
	if got != want {
		t.Errorf("%q:\ngot  %+v\nwant %+v", texts, got, want)
	}
	if len(insts) != 0 {
		t.Errorf("%q: instances beside an error: %s", texts, sayInsts(insts))
	}
}

// chapter is the instances of the chapter's examples.
const chapter = "Eq Int 0; Eq [] 1 Eq 0; Eq (,) 2 Eq 0 Eq 1"
