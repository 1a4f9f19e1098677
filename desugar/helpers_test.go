package desugar_test

import (
	"strings"
	"testing"

	"teasel/api"
	"teasel/core"
	"teasel/desugar"
	"teasel/layout"
	"teasel/lex"
	"teasel/parse"
)

// tree is that of a module's text.
func tree(t testing.TB, text string) api.Node {
	t.Helper()
	ts, d := lex.Read(text)
	if d == (api.Diag{}) {
		ts, d = layout.Lay(ts)
	}
	var n api.Node
	if d == (api.Diag{}) {
		n, d = parse.Parse(ts)
	}
	if d != (api.Diag{}) {
		t.Fatalf("%q: %+v", text, d)
	}
	return n
}

// whole is a text as that of a module: Main, unless it says its name itself.
func whole(text string) string {
	if strings.HasPrefix(text, "module ") {
		return text
	}
	return "module Main where\n" + text + "\n"
}

// files are those of texts.
func files(texts ...string) []api.File {
	var all []api.File
	for _, text := range texts {
		all = append(all, api.File{Name: "f", Text: whole(text)})
	}
	return all
}

// program is that of texts, with the Prelude, and one that Lint accepts.
func program(t testing.TB, texts ...string) api.Program {
	t.Helper()
	p, d := desugar.Front(files(texts...))
	if d != (api.Diag{}) {
		t.Fatalf("%q: %+v", texts, d)
	}
	if errno := core.Lint(p); errno != api.OK {
		t.Fatalf("%q: Lint: %v", texts, errno)
	}
	return p
}

func done(code int) api.Outcome { return api.Outcome{End: api.Done, Code: code} }

func wrote(out string) api.Outcome { return api.Outcome{Out: out, End: api.Done} }

var (
	failed  = api.Outcome{End: api.Failed}
	endless = api.Outcome{End: api.Running}
)

// wantRun is for a program's outcome.
func wantRun(t *testing.T, input string, want api.Outcome, texts ...string) {
	t.Helper()
	if got := run(program(t, texts...), input); got != want {
		t.Errorf("%q: got %+v, want %+v", texts, got, want)
	}
}

// wantNumber is for the number that an expression is.
func wantNumber(t *testing.T, want int, expression string, declarations ...string) {
	t.Helper()
	wantRun(t, "", done(want), "main = return ("+expression+")\n"+strings.Join(declarations, "\n"))
}

// replaced is a text with another one in place of BAD.
func replaced(text, by string) string { return strings.ReplaceAll(text, "BAD", by) }
