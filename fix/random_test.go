package fix_test

import (
	"math/rand"
	"slices"
	"strconv"
	"strings"
	"testing"

	"teasel/api"
	"teasel/fix"
	"teasel/parse"
)

// A maker makes random programs of three modules: Prelude, A, and B, which
// imports A.
type maker struct {
	*rand.Rand
	careful bool // whether operators of one level are all of one side
	depth   int  // of its expressions
	count   int  // how many names it has made
	ops     []string
	cons    []string
}

const (
	preludeOps = ">>= +"
	ownOps     = "- * f g"
	preludeCon = ":+ C"
	ownCons    = ":* D"
)

// keyword is how operators of a level are declared. A careful one agrees with
// infixr 5 and infixl 9, which are given.
func (m *maker) keyword(level int) string {
	if !m.careful {
		return []string{"infixl", "infixr", "infix"}[m.Intn(3)]
	}
	if level == 5 || level%2 == 0 {
		return "infixr"
	}
	return "infixl"
}

// fixities declares some operators, mostly not twice.
func (m *maker) fixities(names []string) []api.Node {
	var out []api.Node
	for _, name := range names {
		if m.Intn(5) == 0 {
			continue
		}
		level := m.Intn(10)
		out = append(out, fixity(m.keyword(level), level, name))
		if !m.careful && m.Intn(20) == 0 {
			out = append(out, fixity(m.keyword(level), m.Intn(10), name, m.pick(names)))
		}
	}
	m.Shuffle(len(out), func(i, j int) { out[i], out[j] = out[j], out[i] })
	return out
}

func (m *maker) fresh() string {
	m.count++
	return "x" + strconv.Itoa(m.count)
}

func (m *maker) pick(names []string) string {
	return names[m.Intn(len(names))]
}

// some is so many nodes, made one by one.
func some(count int, make func() api.Node) []api.Node {
	var out []api.Node
	for range count {
		out = append(out, make())
	}
	return out
}

// sequence is operands and operators between them.
func (m *maker) sequence(kind int, ops []string, operand func() api.Node) api.Node {
	n := node(kind, operand())
	for range 1 + m.Intn(6) {
		n.Subs = append(n.Subs, operator(m.pick(ops)), operand())
	}
	return n
}

func (m *maker) pattern(depth int) api.Node {
	next := func() api.Node { return m.pattern(depth - 1) }
	kind := m.Intn(9)
	if depth <= 0 {
		kind = m.Intn(3)
	}
	switch kind {
	case 0:
		return call(api.PVar, m.fresh())
	case 1:
		return node(api.PWild)
	case 2:
		return api.Node{Kind: api.PInt, N: m.Intn(100)}
	case 3:
		return call(api.PCon, "C", some(m.Intn(3), next)...)
	case 4:
		return node(api.PTup, some(2+m.Intn(2), next)...)
	case 5:
		return call(api.PAs, m.fresh(), next())
	case 6:
		return call(api.PMake, "C", call(api.EField, "l", next()))
	}
	return m.sequence(api.POps, m.cons, next)
}

func (m *maker) expression(depth int) api.Node {
	next := func() api.Node { return m.expression(depth - 1) }
	any := slices.Concat(m.ops, m.cons)
	kind := m.Intn(19)
	if depth <= 0 {
		kind = m.Intn(3)
	}
	switch kind {
	case 0:
		return call(api.EVar, m.pick(m.ops))
	case 1:
		return call(api.ECon, "C")
	case 2:
		return api.Node{Kind: api.EInt, N: m.Intn(100)}
	case 3:
		return node(api.EApp, next(), next())
	case 4:
		return node(api.ELam, list(some(1+m.Intn(2), func() api.Node { return m.pattern(depth - 1) })...), next())
	case 5:
		return node(api.ELam, list(call(api.PVar, m.pick(m.ops))), next()) // an operator of its own
	case 6:
		return node(api.ELet, list(m.declarations(depth-1)...), next())
	case 7:
		return node(api.EIf, some(3, next)...)
	case 8:
		return node(api.ECase, next(), node(api.EAlt, m.pattern(depth-1), m.right(depth-1)))
	case 9:
		return node(api.EDo, node(api.SGen, m.pattern(depth-1), next()), node(api.SLet, list(m.declarations(depth-1)...)), next())
	case 10:
		return node(api.EList, some(m.Intn(3), next)...)
	case 11:
		return node(api.ELeft, next(), operator(m.pick(any)))
	case 12:
		return node(api.ERight, operator(m.pick(any)), next())
	case 13:
		return call(api.EMake, "C", call(api.EField, "l", next()))
	case 14:
		return node(api.EPut, node(api.EList, next()), call(api.EField, "l", next()))
	}
	return m.sequence(api.EOps, any, next)
}

// declarations is functions and patterns with names that nothing else has.
func (m *maker) declarations(depth int) []api.Node {
	if depth <= 0 {
		return nil
	}
	return some(m.Intn(3), func() api.Node {
		if m.Intn(2) == 0 {
			return node(api.DPat, node(api.PList, m.pattern(depth-1)), m.right(depth-1))
		}
		return call(api.DFun, m.fresh(), node(api.DClause, list(m.pattern(depth-1)), m.right(depth-1)))
	})
}

func (m *maker) right(depth int) api.Node {
	n := rightSide(m.expression(depth), m.declarations(depth-1)...)
	if m.Intn(2) == 0 {
		n.Subs[0] = list(some(1+m.Intn(2), func() api.Node {
			return node(api.DGuard, m.expression(depth-1), m.expression(depth-1))
		})...)
	}
	return n
}

// module has functions with the names of operators, data, and an instance.
func (m *maker) module(name string, imports []string, ops, cons []string) api.Node {
	m.ops, m.cons = append(m.ops, ops...), append(m.cons, cons...)
	out := m.fixities(slices.Concat(ops, cons))
	for _, op := range ops {
		out = append(out, call(api.DFun, op, node(api.DClause, list(), m.right(m.depth))))
	}
	var dcons []api.Node
	for _, con := range cons {
		dcons = append(dcons, call(api.DCon, con, list()))
	}
	if name == "Prelude" {
		dcons[len(dcons)-1].Subs[0] = list(call(api.DField, "l", call(api.TCon, "T")))
		out = append(out, call(api.DClass, "K", call(api.TVar, "k"), list(call(api.DMethod, "m", call(api.TVar, "k")))))
	}
	out = append(out, call(api.DData, "T", list(), list(dcons...)))
	out = append(out, call(api.DInst, "K", list(), call(api.TCon, "T"), list(call(api.DFun, "m", node(api.DClause, list(m.pattern(m.depth)), m.right(m.depth))))))
	n := module(name, out...)
	for _, i := range imports {
		n.Subs[1].Subs = append(n.Subs[1].Subs, call(api.DImport, i, node(api.None)))
	}
	return n
}

// program is three modules, in any order. Positions count up in the tree, or
// are random, and few.
func (m *maker) program() []api.Node {
	m.ops, m.cons = nil, []string{":"}
	prelude := m.module("Prelude", nil, strings.Fields(preludeOps), strings.Fields(preludeCon))
	shared := slices.Clone(m.ops)
	sharedCons := slices.Clone(m.cons)
	a := m.module("A", nil, strings.Fields(ownOps), strings.Fields(ownCons))
	m.ops, m.cons = append(shared, "-", "g"), append(sharedCons, ":*")
	b := m.module("B", []string{"A"}, []string{"*", "f"}, []string{":-", "E"})
	mods := []api.Node{prelude, a, b}
	m.Shuffle(len(mods), func(i, j int) { mods[i], mods[j] = mods[j], mods[i] })
	place, few := 0, m.Intn(2) == 0
	every(mods, func(n *api.Node) {
		place++
		n.Line, n.Col = place/7, place%7
		if few {
			n.Line, n.Col = m.Intn(5), m.Intn(5)
		}
	})
	return mods
}

// eachProgram tells random programs and what Mend must answer for them.
func eachProgram(t *testing.T, count int, careful bool, tell func(mods, want []api.Node, wrong api.Diag)) {
	t.Helper()
	m := &maker{Rand: rand.New(rand.NewSource(5)), careful: careful}
	for range count {
		m.depth = 1 + m.Intn(3)
		mods := m.program()
		if slices.ContainsFunc(mods, func(n api.Node) bool { return !parse.Right(n) }) {
			t.Fatal("not Right:", sayTrees(mods))
		}
		want, d := answer(mods)
		tell(mods, want, d)
	}
}

func holdSame(t *testing.T, mods, want []api.Node, wrong api.Diag) {
	t.Helper()
	got, d := fix.Mend(mods...)
	if d != wrong || sayTrees(got) != sayTrees(want) {
		t.Fatalf("%s\ngot  %+v %s\nwant %+v %s", sayTrees(mods), d, sayTrees(got), wrong, sayTrees(want))
	}
}

// P5.1: random programs without errors are mended as the second way does it.
func TestRandomPrograms(t *testing.T) {
	eachProgram(t, 600, true, func(mods, want []api.Node, wrong api.Diag) {
		if wrong.Number != api.OK {
			t.Fatalf("%s\n%+v", sayTrees(mods), wrong)
		}
		holdSame(t, mods, want, wrong)
	})
}

// P5.2: likewise random programs with errors.
func TestRandomErrors(t *testing.T) {
	counts := map[api.Errno]int{}
	files := map[string]int{}
	eachProgram(t, 1500, false, func(mods, want []api.Node, wrong api.Diag) {
		holdSame(t, mods, want, wrong)
		counts[wrong.Number]++
		files[wrong.File]++
	})
	t.Log(counts, files)
	for _, number := range []api.Errno{api.ErrFix, api.ErrMix} {
		if counts[number] < 20 {
			t.Errorf("%v was seen %d times", number, counts[number])
		}
	}
	for _, file := range []string{"Prelude", "A", "B"} {
		if files[file] < 5 {
			t.Errorf("%s was seen %d times", file, files[file])
		}
	}
}
