package classes_test

import (
	"testing"

	"teasel/api"
	"teasel/classes"
)

// The chapter's examples.
func TestDefaultExamples(t *testing.T) {
	wantDefaulted(t, chapter, "Eq a; Eq b", "a = Int; b = Int")
	wantDefaulted(t, chapter, "Eq m a", "ErrAmbiguous")
	wantDefaulted(t, chapter, "Ord a", "ErrAmbiguous")
}

// P8.3: a sub for each TVar, in increasing order of Names, once.
func TestDefault(t *testing.T) {
	insts := chapter + "; Show Int 0; Prelude.Eq Int 0"
	for preds, want := range map[string]string{
		"":                                  "",
		"Eq a":                              "a = Int",
		"Eq a; Show a":                      "a = Int",
		"Eq b; Eq a":                        "a = Int; b = Int",
		"Eq b; Eq a; Eq b; Show b; Show a":  "a = Int; b = Int",
		"Show z; Eq b; Show a; Eq a1; Eq y": "a = Int; a1 = Int; b = Int; y = Int; z = Int",
		"Prelude.Eq c; Eq a.2; Eq a.10":     "a.10 = Int; a.2 = Int; c = Int",
	} {
		wantDefaulted(t, insts, preds, want)
	}
}

// P8.3: what stands for a TVar is the TCon, and nothing else.
func TestDefaultType(t *testing.T) {
	upper := api.Pred{Class: "Eq", Type: variable("B")}
	prim := api.Pred{Class: "Eq", Type: variable("Prim.Int")}
	subs, errno := classes.Default(readInsts(chapter), prim, api.Pred{Class: "Eq", Type: variable("a")}, upper)
	if errno != api.OK || saySubs(subs) != "B = Int; Prim.Int = Int; a = Int" {
		t.Fatal(saySubs(subs), errno)
	}
	for _, s := range subs {
		if s.Type.Kind != api.TCon || s.Type.Name != "Prim.Int" || len(s.Type.Subs) != 0 {
			t.Errorf("%+v", s)
		}
	}
}

// P8.3: ErrAmbiguous if the type of a pred is not a TVar alone.
func TestNotAlone(t *testing.T) {
	for _, of := range []string{"Int", "m a", "m Int", "[] a", "(,) a b", "-> a a", "M.T", "m a b", "[] Int"} {
		for _, preds := range []string{"Eq " + of, "Eq a; Eq " + of, "Eq " + of + "; Eq a"} {
			wantDefaulted(t, chapter+"; Eq M.T 0; Eq -> 2", preds, "ErrAmbiguous")
		}
	}
}

// P8.3: ErrAmbiguous if Prim.Int is not of one of the classes.
func TestNotInt(t *testing.T) {
	for insts, preds := range map[string]string{
		"":                            "Eq a",
		"Eq M.Int 0":                  "Eq a",
		"Eq Prim.Bool 0; Eq [] 1":     "Eq a",
		"Eq Int 1; Eq Int 2":          "Eq a",
		"Eq Int 0":                    "Eq a; Ord a",
		"Eq Int 0; Ord [] 0":          "Eq a; Eq b; Ord c",
		"Eq Int 0; Ord Prim.Int 1":    "Ord b; Eq a",
		"Eq Int 0; Show Prim.Int 0":   "Prelude.Eq a",
		"Eq Int 0; Show Prim.Bool 0 ": "Eq a; Show a; Eq a",
	} {
		wantDefaulted(t, insts, preds, "ErrAmbiguous")
	}
	// It need not be the first instance, as long as it fits.
	wantDefaulted(t, "Eq Int 1; Eq Int 2 Ord 1; Eq Int 0; Eq Int 1", "Eq a", "a = Int")
}
