package infer_test

import (
	"slices"
	"strconv"
	"testing"

	"teasel/api"
	"teasel/infer"
)

// spared is modules whose lists have memory behind their ends.
func spared(nodes []api.Node) []api.Node {
	out := make([]api.Node, len(nodes), len(nodes)+3)
	copy(out, nodes)
	for i := range out {
		out[i].Subs = spared(out[i].Subs)
	}
	for i := range out[len(out):cap(out)] {
		out[len(out):cap(out)][i] = call(api.EVar, "spare")
	}
	return out
}

// everything is all of trees, with what is behind the ends of lists.
func everything(nodes []api.Node) string {
	s := ""
	for i, n := range nodes[:cap(nodes)] {
		for _, number := range []int{n.Kind, n.N, n.Line, n.Col, len(n.Subs)} {
			s += strconv.Itoa(number) + " "
		}
		s += n.Name
		if i < len(nodes) {
			s += "(" + everything(n.Subs) + ")"
		}
		s += ";"
	}
	return s
}

// samples is sets of modules, with and without errors.
func samples(t *testing.T) [][]api.Node {
	t.Helper()
	const a = "module A where\ndata T f a = C (f a) | R { l :: a, m :: Int }\nclass K a where { k :: a -> b -> a }\ninstance Eq a => K (Maybe a) where { k x y = x }\n"
	const b = `module M where
import A
import Prelude
(f, g) = (\x -> x == x, R { l = [1], m = 2 } { m = 3 })
h x y = case x of { (C z) | k z x == z -> do { w <- y; let { (u, v) = (w, [w]); i = id }; return (i u : i v) }; R {} -> (>>= return . (: [])) y } where { n = show [] ++ show g2; g2 = "a" }
`
	texts := [][]string{
		{api.Prelude},
		{a, b, api.Prelude},
		{b + "e = 1 1\n", api.Prelude, a},
		{b + "e = show id\n", api.Prelude, a},
		{b + "e = return 1 == return 1\n", api.Prelude, a},
		{a + "instance K Int where { k x y = y }\n", api.Prelude, b},
		{b, api.Prelude},
		{"module M where\nf = x\n"},
	}
	var all [][]api.Node
	for _, some := range texts {
		all = append(all, trees(t, some...))
	}
	return all
}

// R2: what is handed in is left as it is, with the memory behind it.
func TestTreesAreLeft(t *testing.T) {
	for _, mods := range samples(t) {
		given := spared(mods)
		before := everything(given)
		infer.Types(given...)
		if everything(given) != before {
			t.Error("a tree is another one:", mods[0].Name)
		}
	}
}

// scratch writes over all of trees.
func scratch(nodes []api.Node) {
	for i := range nodes {
		scratch(nodes[i].Subs)
		nodes[i] = call(api.EVar, "scratch")
	}
}

// R2: what is done with an answer, or with what was handed in, changes no
// answers.
func TestAnswersStandAlone(t *testing.T) {
	for _, mods := range samples(t) {
		want, d := infer.Types(mods...)
		given := spared(mods)
		first, e := infer.Types(given...)
		second, f := infer.Types(given...)
		scratch(given)
		if d != e || d != f || !slices.Equal(first, want) {
			t.Fatal("other answers:", d, e, f)
		}
		for i := range first[:cap(first)] {
			first[:cap(first)][i] = api.Typed{Name: "scratch", Type: "scratch"}
		}
		if !slices.Equal(second, want) {
			t.Error("another answer has changed")
		}
	}
}

// R3: an answer depends on nothing but what is handed in.
func TestAnswersAgain(t *testing.T) {
	var want [][]api.Typed
	var diags []api.Diag
	for _, mods := range samples(t) {
		all, d := infer.Types(mods...)
		want, diags = append(want, all), append(diags, d)
	}
	if diags[0] != (api.Diag{}) || diags[1] != (api.Diag{}) || diags[2].Number != api.ErrType || diags[3].Number != api.ErrInstance || diags[4].Number != api.ErrAmbiguous || diags[5].Number != api.ErrType {
		t.Error(diags)
	}
	for range 20 {
		for i, mods := range slices.Backward(samples(t)) {
			all, d := infer.Types(mods...)
			if d != diags[i] || !slices.Equal(all, want[i]) {
				t.Error("another answer:", i, d, diags[i])
			}
		}
	}
}
