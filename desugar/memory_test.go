package desugar_test

import (
	"strconv"
	"testing"

	"teasel/api"
	"teasel/desugar"
)

// roomy is nodes whose lists have memory behind their ends.
func roomy(nodes []api.Node) []api.Node {
	out := make([]api.Node, len(nodes), len(nodes)+2)
	copy(out, nodes)
	for i := range out {
		out[i].Subs = roomy(out[i].Subs)
	}
	for i := len(out); i < cap(out); i++ {
		out[:cap(out)][i] = node(api.EVar, "spare")
	}
	return out
}

// everything is all of nodes, with what is behind the ends of lists.
func everything(nodes []api.Node) string {
	s := ""
	for i, n := range nodes[:cap(nodes)] {
		for _, number := range []int{n.Kind, n.N, n.Line, n.Col, len(n.Subs)} {
			s += strconv.Itoa(number) + " "
		}
		s += n.Name
		if i < len(nodes) {
			s += "(" + everything(n.Subs) + ")"
		}
		s += ";"
	}
	return s
}

// places tells where the elements of all lists in e are, with those that there is
// room for.
func places(e api.Expr, tell func(at any)) {
	names := e.Names[:cap(e.Names)]
	for i := range names {
		tell(&names[i])
	}
	subs := e.Subs[:cap(e.Subs)]
	for i := range subs {
		tell(&subs[i])
		places(subs[i], tell)
	}
	binds := e.Binds[:cap(e.Binds)]
	for i := range binds {
		tell(&binds[i])
		places(binds[i].Expr, tell)
	}
	alts := e.Alts[:cap(e.Alts)]
	for i := range alts {
		tell(&alts[i])
		names := alts[i].Names[:cap(alts[i].Names)]
		for j := range names {
			tell(&names[j])
		}
		places(alts[i].Body, tell)
	}
}

func allPlaces(p api.Program, tell func(at any)) {
	cons, binds := p.Cons[:cap(p.Cons)], p.Binds[:cap(p.Binds)]
	for i := range cons {
		tell(&cons[i])
	}
	for i := range binds {
		tell(&binds[i])
		places(binds[i].Expr, tell)
	}
}

// spoil changes all of an expression.
func spoil(e *api.Expr) {
	for i := range e.Subs {
		spoil(&e.Subs[i])
	}
	for i := range e.Binds {
		spoil(&e.Binds[i].Expr)
	}
	for i := range e.Alts {
		spoil(&e.Alts[i].Body)
		e.Alts[i].Names = append(e.Alts[i].Names, "spoilt")
	}
	for i := range e.Names {
		e.Names[i] = "spoilt"
	}
	*e = api.Expr{Kind: api.Var, Name: "spoilt"}
}

// What is handed in is left as it is, with all memory beyond the length of lists;
// what is answered shares none with it, with other answers or within itself; and
// the same is answered again, whatever was done with an answer.
func TestMemory(t *testing.T) {
	prelude := tree(t, api.Prelude)
	for _, texts := range [][]string{
		{"module A where" + rich, "module Main where\nimport A\nmain = return (f 1 \"x\" 2)"},
		{"module A where" + rich, "module Main where\nimport A\nmain = c\nclass C a where { c :: a }\ninstance C a => C (IO a) where { c = fmap id (return c) }\ninstance C Int where { c = 2 }"},
		{"module Main where\nmain = 1"},
		{"module A where\nmain = return 1"},
		{"module Main where\nmain = return x"},
		{"module Main where\nmain = return 1\nf = \"" + many(2000, "a") + "\""},
	} {
		mods := []api.Node{prelude}
		for _, text := range texts {
			mods = append(mods, tree(t, text))
		}
		mods = roomy(mods)
		before := everything(mods)
		p, d := desugar.Core(mods...)
		if everything(mods) != before {
			t.Errorf("%q: changed", texts)
		}
		q, again := desugar.Core(mods...)
		if d != again || sayProgram(p) != sayProgram(q) {
			t.Errorf("%q: %+v, then %+v", texts, d, again)
		}
		known := map[any]struct{}{}
		tell := func(at any) {
			if _, found := known[at]; found {
				t.Fatalf("%q: shared memory", texts)
			}
			known[at] = struct{}{}
		}
		allPlaces(p, tell)
		allPlaces(q, tell)
		text := sayProgram(q)
		for i := range p.Binds {
			spoil(&p.Binds[i].Expr)
		}
		p, d = desugar.Core(mods...)
		if d != again || sayProgram(p) != text || sayProgram(q) != text {
			t.Errorf("%q: changed by what was done with an answer", texts)
		}
	}
}

// Files are left as they are, and the same is answered again.
func TestFilesAreKept(t *testing.T) {
	all := append(files("module A where"+rich, "import A\nmain = return (f 1 \"x\" 2)"), api.File{Name: "spare", Text: "spare"})
	p, d := desugar.Front(all[:2])
	q, again := desugar.Front(all[:2:2])
	if d != (api.Diag{}) || again != d || sayProgram(p) != sayProgram(q) || run(p, "") != run(q, "") || all[2].Name != "spare" {
		t.Error(d, again)
	}
	// names of files have no influence, and the order of files has none on outcomes
	all[0].Name, all[1].Name = "", "A"
	r, d := desugar.Front([]api.File{all[1], all[0]})
	if d != (api.Diag{}) || run(r, "") != run(p, "") {
		t.Error(d)
	}
}
