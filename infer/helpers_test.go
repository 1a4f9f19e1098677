package infer_test

import (
	"strings"
	"testing"

	"teasel/api"
	"teasel/infer"
	"teasel/layout"
	"teasel/lex"
	"teasel/parse"
)

// tree is that of a module's text.
func tree(t testing.TB, text string) api.Node {
	t.Helper()
	ts, d := lex.Read(text)
	if d == (api.Diag{}) {
		ts, d = layout.Lay(ts)
	}
	var n api.Node
	if d == (api.Diag{}) {
		n, d = parse.Parse(ts)
	}
	if d != (api.Diag{}) {
		t.Fatalf("%q: %+v", text, d)
	}
	return n
}

func trees(t testing.TB, texts ...string) []api.Node {
	t.Helper()
	var all []api.Node
	for _, text := range texts {
		all = append(all, tree(t, text))
	}
	return all
}

// whole is a text as that of a module: M, unless it says its name itself.
func whole(text string) string {
	if strings.HasPrefix(text, "module ") {
		return text
	}
	return "module M where\n" + text + "\n"
}

// say is types as lines: a name, a colon, and its type. Those of M have names
// without M, those of the Prelude are left out.
func say(all []api.Typed) string {
	var lines []string
	for _, x := range all {
		if !strings.HasPrefix(x.Name, "Prelude.") {
			lines = append(lines, strings.TrimPrefix(x.Name, "M.")+" : "+x.Type)
		}
	}
	return strings.Join(lines, "\n")
}

// lines is a text without the blanks around each of its lines.
func lines(text string) string {
	var all []string
	for line := range strings.Lines(strings.TrimSpace(text)) {
		all = append(all, strings.TrimSpace(line))
	}
	return strings.Join(all, "\n")
}

// wantTypes holds what Types answers for modules and the Prelude.
func wantTypes(t *testing.T, want string, texts ...string) {
	t.Helper()
	mods := trees(t, api.Prelude)
	for _, text := range texts {
		mods = append(mods, tree(t, whole(text)))
	}
	all, d := infer.Types(mods...)
	if d != (api.Diag{}) || say(all) != lines(want) {
		t.Errorf("%s\ngot:\n%s\n%s\nwant:\n%s", strings.Join(texts, "\n"), diagText(d), say(all), lines(want))
	}
}

// wantType holds that f of a module has that type.
func wantType(t *testing.T, want, text string) {
	t.Helper()
	all, d := infer.Types(trees(t, api.Prelude, whole(text))...)
	got := diagText(d)
	for _, x := range all {
		if x.Name == "M.f" {
			got += x.Type
		}
	}
	if got != want {
		t.Errorf("%s\ngot:  %s\nwant: %s", text, got, want)
	}
}

func diagText(d api.Diag) string {
	if d == (api.Diag{}) {
		return ""
	}
	return errorText(d.Number) + " in " + d.File
}

func errorText(errno api.Errno) string {
	switch errno {
	case api.ErrType:
		return "ErrType"
	case api.ErrInstance:
		return "ErrInstance"
	case api.ErrAmbiguous:
		return "ErrAmbiguous"
	}
	return errno.Error()
}

// wantWrong holds that modules, with the Prelude, have that error where a §
// stands.
func wantWrong(t *testing.T, number api.Errno, texts ...string) {
	t.Helper()
	mods := trees(t, api.Prelude)
	var want api.Diag
	for _, text := range texts {
		before, after, found := strings.Cut(whole(text), "§")
		mods = append(mods, tree(t, before+after))
		if found {
			want.File = mods[len(mods)-1].Name
			want.Line = 1 + strings.Count(before, "\n")
			want.Col = len(before) - strings.LastIndex(before, "\n")
			want.Number = number
		}
	}
	if want.Number == api.OK {
		t.Fatal("no § in", texts)
	}
	all, got := infer.Types(mods...)
	if got != want {
		t.Errorf("%s\ngot:  %s %+v\nwant: %s %+v", strings.Join(texts, "\n"), diagText(got), got, diagText(want), want)
	}
	if len(all) != 0 {
		t.Errorf("%q: types beside an error: %s", texts, say(all))
	}
}
