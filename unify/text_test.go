package unify_test

import (
	"strings"
	"testing"

	"teasel/api"
	"teasel/unify"
)

// P7.4: the texts of types.
func TestText(t *testing.T) {
	for text, want := range map[string]string{
		"a":          "a",
		"A":          "A",
		"Prim.Int":   "Int",
		"M.T":        "M.T",
		"x.1":        "x.1",
		"prim.a":     "prim.a",
		"M.Prim.A":   "M.Prim.A",
		"Prim.Prim.": "Prim.",
		"Prims.A":    "Prims.A",
		"Prim":       "Prim",
		// Arrows.
		"-> a b":                    "a -> b",
		"-> Prim.Int Prim.Bool":     "Int -> Bool",
		"-> a (-> b c)":             "a -> b -> c",
		"-> (-> a b) c":             "(a -> b) -> c",
		"-> (-> a b) (-> c d)":      "(a -> b) -> c -> d",
		"-> (-> (-> a b) c) d":      "((a -> b) -> c) -> d",
		"-> (-> a (-> b c)) d":      "(a -> b -> c) -> d",
		"-> a (-> (-> b c) d)":      "a -> (b -> c) -> d",
		"-> (A a) (B b)":            "A a -> B b",
		"-> (A (-> a b)) c":         "A (a -> b) -> c",
		"-> ([] a) ([] b)":          "[a] -> [b]",
		"-> ([] (-> a b)) c":        "[a -> b] -> c",
		"-> ((,) a b) ((,,) a b c)": "(a, b) -> (a, b, c)",
		// Arrows with another number of arguments.
		"->":              "->",
		"-> a":            "-> a",
		"-> (-> a b)":     "-> (a -> b)",
		"-> (A a)":        "-> (A a)",
		"-> a b c":        "(a -> b) c",
		"-> a b c d":      "(a -> b) c d",
		"-> a b (-> a b)": "(a -> b) (a -> b)",
		"-> (-> a) b":     "-> a -> b",
		"-> a (-> b)":     "a -> -> b",
		// Lists.
		"[] a":          "[a]",
		"[] ([] a)":     "[[a]]",
		"[] (-> a b)":   "[a -> b]",
		"[] (A a)":      "[A a]",
		"[] ((,) a b)":  "[(a, b)]",
		"[] [] ":        "[[]]",
		"[]":            "[]",
		"[] a b":        "[a] b",
		"[] a b c":      "[a] b c",
		"[] (-> a b) c": "[a -> b] c",
		"A ([] a)":      "A [a]",
		"a []":          "a []",
		// Tuples.
		"(,) a b":                    "(a, b)",
		"(,,) a b c":                 "(a, b, c)",
		"(,) (-> a b) (-> c d)":      "(a -> b, c -> d)",
		"(,,) (-> a b) (A c) ([] d)": "(a -> b, A c, [d])",
		"(,) ((,) a b) ((,,) a b c)": "((a, b), (a, b, c))",
		"(,)":                        "(,)",
		"(,,)":                       "(,,)",
		"(,) a":                      "(,) a",
		"(,) (A a)":                  "(,) (A a)",
		"(,,) a":                     "(,,) a",
		"(,,) a b":                   "(,,) a b",
		"(,,) a (-> b c)":            "(,,) a (b -> c)",
		"(,) a b c":                  "(a, b) c",
		"(,,) a b c d":               "(a, b, c) d",
		"(,,) a b c d e":             "(a, b, c) d e",
		"A ((,) a b)":                "A (a, b)",
		"(,) ((,) a)":                "(,) ((,) a)",
		// Applications.
		"A a":                        "A a",
		"a b":                        "a b",
		"a b c":                      "a b c",
		"a (b c)":                    "a (b c)",
		"a (b c) d":                  "a (b c) d",
		"a b (c d)":                  "a b (c d)",
		"a (b (c (d e)))":            "a (b (c (d e)))",
		"A b c d e f":                "A b c d e f",
		"A (-> a b)":                 "A (a -> b)",
		"A (-> a b) (B c)":           "A (a -> b) (B c)",
		"a (-> b) c":                 "a (-> b) c",
		"A ([] a b)":                 "A ([a] b)",
		"A (-> a b c)":               "A ((a -> b) c)",
		"Prim.IO (Prim.IO Prim.Int)": "IO (IO Int)",
	} {
		if got := unify.Text(read(text)); got != want {
			t.Errorf("%s: got %s, want %s", text, got, want)
		}
	}
	// The chapter's example.
	if got := unify.Text(read("-> (-> a b) ([] (A c))")); got != "(a -> b) -> [A c]" {
		t.Error(got)
	}
	if got := unify.Text(app(con("Prim.IO"), con("Prim.()"))); got != "IO ()" {
		t.Error(got)
	}
}

// P7.4: only TCons are named without Prim, and only TCons of Prim are arrows,
// lists and tuples.
func TestTextNames(t *testing.T) {
	a, b, c := variable("a"), variable("b"), variable("c")
	for want, n := range map[string]api.Type{
		"Prim.a":          variable("Prim.a"),
		"a Prim.b":        app(a, variable("Prim.b")),
		"Prim.-> a b":     app(variable("Prim.->"), a, b),
		"Prim.[] a":       app(variable("Prim.[]"), a),
		"Prim.(,) a b":    app(variable("Prim.(,)"), a, b),
		"Prim.(,,) a b c": app(variable("Prim.(,,)"), a, b, c),
		"-> a b":          app(con("->"), a, b),
		"[] a":            app(con("[]"), a),
		"(,) a b":         app(con("(,)"), a, b),
		"M.-> a b":        app(con("M.->"), a, b),
		"Prim.-> (a b) c": app(con("Prim.Prim.->"), app(a, b), c),
		" a":              app(con("Prim."), a),
	} {
		if got := unify.Text(n); got != want {
			t.Errorf("%+v: got %q, want %q", n, got, want)
		}
	}
	if got := unify.Text(con("Prim.")); got != "" {
		t.Errorf("%q", got)
	}
}

// P7.4: types that are not valid have no text.
func TestTextWrong(t *testing.T) {
	for what, n := range wrongTypes() {
		for how, whole := range map[string]api.Type{
			"alone":         n,
			"in a list":     app(con("Prim.[]"), n),
			"in an arrow":   app(con("Prim.->"), variable("a"), n),
			"ahead":         app(con("Prim.->"), n, variable("a")),
			"as a function": app(n, variable("a")),
			"further in":    app(con("Prim.(,)"), variable("a"), app(con("A"), con("B"), n)),
		} {
			if got := unify.Text(whole); got != "" {
				t.Errorf("%s, %s: %.100q", what, how, got)
			}
		}
	}
}

// P7.4: a type that is too big has its text.
func TestTextBig(t *testing.T) {
	if got, want := unify.Text(great(3001, variable("a"))), "a"+strings.Repeat(" A", 1500); got != want {
		t.Errorf("%.100q", got)
	}
}
