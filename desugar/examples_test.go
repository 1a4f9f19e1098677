package desugar_test

import (
	"testing"

	"teasel/api"
	"teasel/desugar"
)

// The chapter's examples.
func TestExamples(t *testing.T) {
	wantRun(t, "", api.Outcome{Out: "[1,2]", End: api.Done, Code: 3}, "main = putBytes (show [1, 2]) >> return 3")
	wantRun(t, "a", done(1), `main = getByte >>= \c -> return (case c of { 97 -> 1; _ -> 2 })`)
	wantRun(t, "b", done(2), `main = getByte >>= \c -> return (case c of { 97 -> 1; _ -> 2 })`)
	wantRun(t, "", failed, "main = return (head [])")
	wantRun(t, "", done(1), "main = return (let x = x in fst (1, x))")
	for _, c := range []struct {
		text string
		want api.Diag
	}{
		{"main = return True", api.Diag{File: "Main", Line: 2, Col: 1, Number: api.ErrMain}},
		{"f = 1", api.Diag{File: "Main", Line: 1, Col: 1, Number: api.ErrMain}},
	} {
		if p, d := desugar.Front(files(c.text)); d != c.want || len(p.Binds)+len(p.Cons) > 0 {
			t.Errorf("%q: got %+v, want %+v", c.text, d, c.want)
		}
	}
}
