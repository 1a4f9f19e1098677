package infer_test

import (
	"math/rand"
	"slices"
	"strings"
	"testing"

	"teasel/api"
	"teasel/infer"
	"teasel/unify"
)

// byName is types in the order of their names.
func byName(all []api.Typed) []api.Typed {
	return slices.SortedFunc(slices.Values(all), func(a, b api.Typed) int { return strings.Compare(a.Name, b.Name) })
}

// shuffle puts the declarations of each List into another order.
func shuffle(r *rand.Rand, n *api.Node) {
	n.Subs = slices.Clone(n.Subs)
	for i := range n.Subs {
		shuffle(r, &n.Subs[i])
	}
	if n.Kind == api.List && slices.ContainsFunc(n.Subs, func(d api.Node) bool { return d.Kind == api.DFun || d.Kind == api.DPat }) {
		r.Shuffle(len(n.Subs), func(i, j int) { n.Subs[i], n.Subs[j] = n.Subs[j], n.Subs[i] })
	}
}

// rename gives local variables other names: those that the makers of random
// programs make, but for some.
func rename(n *api.Node, kept []string) {
	n.Subs = slices.Clone(n.Subs)
	for i := range n.Subs {
		rename(&n.Subs[i], kept)
	}
	if strings.HasPrefix(n.Name, "v") && n.Kind != api.EStr && n.Kind != api.PStr && !slices.Contains(kept, n.Name) {
		n.Name = "other_" + strings.Repeat("'", len(n.Name)%3) + n.Name
	}
}

// namesAtTop is the names that a module's declarations bind.
func namesAtTop(tree api.Node) []string {
	var all []string
	for _, d := range tree.Subs[2].Subs {
		if d.Kind == api.DFun || d.Kind == api.DPat {
			all = append(all, namesIn(d)...)
		}
	}
	return all
}

// P9.3: a well-typed program remains so, with the same types, if its local
// variables are renamed, and if declarations are put into another order. (And so
// does one that is not.)
func TestReordered(t *testing.T) {
	m := &typedMaker{maker: maker{Rand: rand.New(rand.NewSource(930))}}
	prelude := tree(t, small)
	right, wrong := 0, 0
	for range 1500 {
		text := m.program()
		mods := []api.Node{prelude, tree(t, text)}
		want, d := infer.Types(mods...)
		if d.Number == api.ErrTwice || d.Number == api.ErrUnknown {
			continue
		}
		rename(&mods[1], namesAtTop(mods[1]))
		if got, e := infer.Types(mods...); e != d || !slices.Equal(got, want) {
			t.Fatalf("%s\nrenamed: %+v %+v\n%s", text, d, e, say(got))
		}
		for range 3 {
			shuffle(m.Rand, &mods[1])
			got, e := infer.Types(mods...)
			if (d.Number == api.OK) != (e.Number == api.OK) || !slices.Equal(byName(got), byName(want)) {
				t.Fatalf("%s\nreordered: %+v %+v\n%s\n%s", text, d, e, say(want), say(got))
			}
		}
		if d.Number == api.OK {
			right++
		} else {
			wrong++
		}
	}
	t.Log(right, wrong)
	if right < 200 || wrong < 200 {
		t.Error("too few:", right, wrong)
	}
}

// P9.3: what is told of outer variables counts, whichever of the declarations of
// a group tells it.
func TestReorderedGroup(t *testing.T) {
	class := "class C a where { c :: a -> Int }\ninstance Eq a => C [a] where\n"
	one := "g m = let (h, i) = (\\x -> c (m >>= \\y -> return x), 1) in h i + f m\n"
	two := "f m = case m of { [] -> g m }\n"
	wantTypes(t, "g : [a] -> Int\nf : [a] -> Int", class+one+two)
	wantTypes(t, "f : [a] -> Int\ng : [a] -> Int", class+two+one)
}

// pure is programs without preds: each name has the type that the maker knows.
func (m *typedMaker) pure() string {
	for {
		text := m.program()
		known := true
		for _, word := range []string{"==", ">>=", "<-", "show", "return", "conv", "def", "nul", "instance", "z@"} {
			known = known && !strings.Contains(text, word)
		}
		if known {
			return text
		}
	}
}

// P9.3: every type that a value can have is an instance of its scheme: a DFun of
// a DInst may have it.
func TestPrincipal(t *testing.T) {
	m := &typedMaker{maker: maker{Rand: rand.New(rand.NewSource(931))}}
	m.safe = true
	prelude := tree(t, small)
	general := 0
	for range 1500 {
		text := m.pure()
		mod := tree(t, text)
		want, d := infer.Types(prelude, mod)
		if d != (api.Diag{}) {
			t.Fatalf("%s\n%+v", text, d)
		}
		if strings.Contains(say(want), "a") {
			general++
		}
		for i, name := range namesAtTop(mod) {
			known := strings.ReplaceAll(unify.Text(m.typeOf[name]), "Prelude.", "")
			class := "class W w where { w :: w -> " + known + " }\n"
			if all, d := infer.Types(prelude, tree(t, text+class+"instance W () where { w () = "+name+" }\n")); d != (api.Diag{}) {
				t.Fatalf("%s\n%s : %s: %+v\n%s", text, name, known, d, say(all))
			}
			// And it has no more than these.
			other := m.goal(2)
			class = "class W w where { w :: w -> " + strings.ReplaceAll(unify.Text(other), "Prelude.", "") + " }\n"
			_, d := infer.Types(prelude, tree(t, text+class+"instance W () where { w () = "+name+" }\n"))
			if fits := isInstance(t, want[len(want)-len(namesAtTop(mod))+i].Type, other); fits != (d == (api.Diag{})) || !fits && d.Number != api.ErrType {
				t.Fatalf("%s\n%s : %s: %v %+v", text, name, unify.Text(other), fits, d)
			}
		}
	}
	if general < 300 {
		t.Error("too few:", general)
	}
}

// isInstance says whether a type is an instance of one that is given by its text.
func isInstance(t *testing.T, text string, of api.Type) bool {
	t.Helper()
	n := tree(t, "module M where\ndata T = T ("+text+")\n").Subs[2].Subs[0].Subs[1].Subs[0].Subs[0].Subs[0]
	_, errno := unify.Match(qualified(typeOf(n)), of)
	return errno == api.OK
}

// qualified is a type with the names of small.
func qualified(t api.Type) api.Type {
	switch {
	case t.Kind == api.TApp:
		return tapp(qualified(t.Subs[0]), qualified(t.Subs[1]))
	case t.Kind == api.TCon && (t.Name == "Maybe" || t.Name == "R"):
		return tcon("Prelude." + t.Name)
	case t.Kind == api.TCon:
		return tcon("Prim." + t.Name)
	}
	return t
}
