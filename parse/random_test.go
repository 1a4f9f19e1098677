package parse_test

import (
	"cmp"
	"math/rand"
	"slices"
	"strings"
	"testing"

	"teasel/api"
	"teasel/parse"
)

// A maker makes random modules, as a writer takes them.
type maker struct {
	*rand.Rand
	odd float64 // how often something stands where it may not
}

func pick[T any](m *maker, of ...T) T {
	return of[m.Intn(len(of))]
}

func (m *maker) isOdd() bool {
	return m.Float64() < m.odd
}

// several is at least so many nodes, and at most three more.
func (m *maker) several(least int, one func() api.Node) []api.Node {
	var out []api.Node
	for range least + m.Intn(4)*m.Intn(2) {
		out = append(out, one())
	}
	return out
}

func node(kind int, subs ...api.Node) api.Node {
	return api.Node{Kind: kind, Subs: subs}
}

func call(kind int, name string, subs ...api.Node) api.Node {
	return api.Node{Kind: kind, Name: name, Subs: subs}
}

func number(kind, n int) api.Node {
	return api.Node{Kind: kind, N: n}
}

func (m *maker) con() string      { return pick(m, "A", "B", "Cd'") }
func (m *maker) varName() string  { return pick(m, "x", "y", "f", "g", "_z") }
func (m *maker) variable() string { return pick(m, m.varName(), m.varName(), "+", "-->") }
func (m *maker) conName() string  { return pick(m, m.con(), m.con(), ":", ":+") }
func (m *maker) valueName() string {
	return pick(m, m.conName(), m.conName(), "()", "(,)", "(,,)")
}

func (m *maker) operator() api.Node {
	if m.Intn(2) == 0 {
		return m.conOperator()
	}
	return call(api.EOp, m.variable())
}

func (m *maker) conOperator() api.Node {
	return api.Node{Kind: api.EOp, Name: m.conName(), N: 1}
}

func (m *maker) module() api.Node {
	imports := m.several(0, func() api.Node { return call(api.DImport, m.con(), m.items()) })
	decls := m.several(1, func() api.Node { return m.top(4) })
	return call(api.DMod, m.con(), m.items(), node(api.List, imports...), node(api.List, decls...))
}

func (m *maker) items() api.Node {
	if m.Intn(2) == 0 {
		return api.Node{}
	}
	return node(api.List, m.several(0, func() api.Node { return call(api.DItem, pick(m, m.con(), m.variable())) })...)
}

func (m *maker) top(depth int) api.Node {
	switch m.Intn(12) {
	case 0:
		variables := m.several(0, m.typeVariable)
		return call(api.DData, m.con(), node(api.List, variables...), node(api.List, m.several(0, m.constructor)...))
	case 1:
		return call(api.DClass, m.con(), m.typeVariable(), node(api.List, m.several(0, func() api.Node { return m.signature(api.DMethod) })...))
	case 2:
		return m.instance(depth)
	case 3:
		n := call(api.DFix, pick(m, "infix", "infixl", "infixr"), node(api.List, m.several(1, m.operator)...))
		n.N = m.Intn(10)
		return n
	}
	return m.equation(depth)
}

func (m *maker) typeVariable() api.Node {
	return call(api.TVar, m.varName())
}

func (m *maker) signature(kind int) api.Node {
	return call(kind, m.variable(), m.typeExp(3))
}

func (m *maker) constructor() api.Node {
	if m.Intn(2) == 0 {
		return call(api.DCon, m.conName(), node(api.List, m.several(1, func() api.Node { return m.signature(api.DField) })...))
	}
	return call(api.DCon, m.conName(), node(api.List, m.several(0, func() api.Node { return m.typeExp(3) })...))
}

func (m *maker) typeExp(depth int) api.Node {
	if depth == 0 || m.Intn(3) == 0 {
		return pick(m, m.typeVariable(), call(api.TCon, pick(m, m.con(), "()", "(,)", "(,,)", "[]", "->")))
	}
	n := pick(m, m.typeExp(depth-1), call(api.TCon, pick(m, "(,)", "(,,)", "[]", "->")))
	for range 1 + m.Intn(3) {
		n = node(api.TApp, n, m.typeExp(depth-1))
	}
	return n
}

func (m *maker) instance(depth int) api.Node {
	context := m.several(0, func() api.Node { return call(api.DPred, m.con(), m.typeVariable()) })
	head := call(api.TCon, pick(m, m.con(), "()", "(,)", "(,,)", "[]", "->"))
	count := map[string]int{"(,)": 2, "(,,)": 3, "[]": 1, "->": 2}[head.Name] * m.Intn(2)
	if isGreat(head.Name) {
		count = m.Intn(3)
	}
	for range count {
		head = node(api.TApp, head, m.typeVariable())
	}
	equations := m.several(0, func() api.Node {
		if m.isOdd() {
			return m.equation(depth - 1)
		}
		return node(api.DPat, m.clause(depth-1), m.rightSide(depth-1))
	})
	return call(api.DInst, m.con(), node(api.List, context...), head, node(api.List, equations...))
}

func (m *maker) equations(depth int) api.Node {
	return node(api.List, m.several(0, func() api.Node { return m.equation(depth) })...)
}

func (m *maker) equation(depth int) api.Node {
	left := m.clause(depth)
	switch {
	case m.isOdd():
		left = m.exp(depth)
	case m.Intn(3) == 0:
		left = m.pattern(depth)
	}
	return node(api.DPat, left, m.rightSide(depth-1))
}

// clause is the left side of a clause.
func (m *maker) clause(depth int) api.Node {
	if m.Intn(3) == 0 {
		before, after := m.between(depth), m.between(depth)
		return node(api.EOps, slices.Concat(before, []api.Node{call(api.EOp, m.variable())}, after)...)
	}
	n := call(api.EVar, m.variable())
	for range m.Intn(3) {
		n = node(api.EApp, n, m.pattern(depth))
	}
	return n
}

// between is patterns with constructors between them, or one pattern.
func (m *maker) between(depth int) []api.Node {
	out := []api.Node{m.pattern(depth)}
	for range m.Intn(3) * m.Intn(2) {
		op := m.conOperator()
		if m.isOdd() {
			op = m.operator()
		}
		out = append(out, op, m.pattern(depth))
	}
	return out
}

func (m *maker) rightSide(depth int) api.Node {
	guards := []api.Node{node(api.DGuard, api.Node{}, m.exp(depth))}
	if m.Intn(3) == 0 {
		guards = m.several(1, func() api.Node { return node(api.DGuard, m.exp(depth-1), m.exp(depth-1)) })
	}
	where := node(api.List)
	if depth > 0 && m.Intn(4) == 0 {
		where = m.equations(depth - 1)
	}
	return node(api.DRhs, node(api.List, guards...), where)
}

func (m *maker) leaf() api.Node {
	return pick(m, call(api.EVar, m.variable()), call(api.ECon, m.valueName()), number(api.EInt, m.Intn(3)), call(api.EStr, pick(m, "", "x", "A\n")), node(api.EList))
}

func (m *maker) pattern(depth int) api.Node {
	if m.isOdd() {
		return m.exp(depth)
	}
	one := func() api.Node { return m.pattern(depth - 1) }
	if depth <= 0 {
		return pick(m, m.leaf(), node(api.EWild))
	}
	switch m.Intn(9) {
	case 0:
		n := call(api.ECon, m.valueName())
		for _, a := range m.several(1, one) {
			n = node(api.EApp, n, a)
		}
		return n
	case 1:
		return node(api.EOps, append(m.between(depth-1), m.conOperator(), one())...)
	case 2:
		return node(api.ETup, append(m.several(2, one), one())[:2+m.Intn(2)]...)
	case 3:
		return node(api.EList, m.several(0, one)...)
	case 4:
		return call(api.EAs, m.varName(), one())
	case 5:
		return call(api.EMake, m.valueName(), m.several(0, func() api.Node { return call(api.EField, m.variable(), one()) })...)
	}
	return pick(m, m.leaf(), m.leaf(), node(api.EWild))
}

func (m *maker) exp(depth int) api.Node {
	if m.isOdd() {
		return pick(m, m.pattern(depth), node(api.EWild), node(api.EDo))
	}
	if depth <= 0 {
		return m.leaf()
	}
	one := func() api.Node { return m.exp(depth - 1) }
	field := func() api.Node { return call(api.EField, m.variable(), one()) }
	switch m.Intn(15) {
	case 0:
		return node(api.EApp, one(), one())
	case 1:
		n := node(api.EOps, one())
		for range 1 + m.Intn(3) {
			n.Subs = append(n.Subs, m.operator(), one())
		}
		return n
	case 2:
		return node(api.ELam, node(api.List, m.several(1, func() api.Node { return m.pattern(depth - 1) })...), one())
	case 3:
		return node(api.ELet, m.equations(depth-1), one())
	case 4:
		return node(api.EIf, one(), one(), one())
	case 5:
		alternatives := m.several(0, func() api.Node { return node(api.EAlt, m.pattern(depth-1), m.rightSide(depth-1)) })
		return node(api.ECase, append([]api.Node{one()}, alternatives...)...)
	case 6:
		return m.do(depth)
	case 7:
		return node(api.ETup, append(m.several(2, one), one())[:2+m.Intn(2)]...)
	case 8:
		return node(api.EList, m.several(0, one)...)
	case 9:
		return node(api.ELeft, one(), m.operator())
	case 10:
		return node(api.ERight, m.operator(), one())
	case 11:
		return call(api.EMake, m.valueName(), m.several(0, field)...)
	case 12:
		return m.put(one(), m.several(1, field))
	}
	return m.leaf()
}

// put is braces behind any expression but a constructor's name.
func (m *maker) put(first api.Node, fields []api.Node) api.Node {
	if first.Kind == api.ECon {
		return call(api.EMake, first.Name, fields...)
	}
	return node(api.EPut, append([]api.Node{first}, fields...)...)
}

func (m *maker) do(depth int) api.Node {
	statement := func() api.Node {
		switch m.Intn(3) {
		case 0:
			return node(api.SGen, m.pattern(depth-1), m.exp(depth-1))
		case 1:
			return node(api.SLet, m.equations(depth-1))
		}
		return m.exp(depth - 1)
	}
	last := m.exp(depth - 1)
	if m.isOdd() {
		last = statement()
	}
	return node(api.EDo, append(m.several(0, statement), last)...)
}

// inOrder gives tokens positions as in a file.
func inOrder(m *maker) func() (int, int) {
	line, col := 1, 0
	return func() (int, int) {
		col += 1 + m.Intn(9)
		if m.Intn(5) == 0 {
			line, col = line+1, 1+m.Intn(5)
		}
		return line, col
	}
}

// anywhere gives tokens any positions.
func anywhere(m *maker) func() (int, int) {
	return func() (int, int) { return m.Intn(12) - 3, m.Intn(1000) - 300 }
}

// P3.1, P3.2 and P3.4: random modules have the trees, the positions and the
// errors of a second parser; and their trees are Right.
func TestRandomModules(t *testing.T) {
	fine := 0
	for seed := range int64(10000) {
		m := &maker{Rand: rand.New(rand.NewSource(seed)), odd: pick(&maker{Rand: rand.New(rand.NewSource(seed))}, 0, 0, 0.01, 0.03)}
		w := &writer{place: inOrder(m), choose: func() bool { return m.Intn(8) == 0 }}
		if seed%2 == 1 {
			w.place = anywhere(m)
		}
		want, wrong := settled(w.module(m.module()))
		if deepest(w.tokens) > api.MaxNest {
			continue
		}
		got, d := parse.Parse(w.tokens)
		if d != wrong || sayAll(got) != sayAll(want) {
			t.Fatalf("seed %d: %s\ngot  %s %+v\nwant %s %+v", seed, texts(w.tokens), sayAll(got), d, sayAll(want), wrong)
		}
		if d.Number == api.OK {
			fine++
			if !parse.Right(got) {
				t.Fatalf("seed %d: %s\nnot Right: %s", seed, texts(w.tokens), say(got))
			}
		}
	}
	if fine < 3000 {
		t.Error("too few modules without errors:", fine)
	}
}

// sourceOf is tokens as the text of a file.
func sourceOf(ts []api.Token) string {
	var words []string
	for _, t := range ts {
		switch t.Kind {
		case api.IntTok:
			words = append(words, itoa(t.N))
		case api.StrTok:
			literal := ""
			for _, b := range []byte(t.Text) {
				literal += `\` + itoa(int(b))
			}
			words = append(words, `"`+literal+`"`)
		default:
			words = append(words, t.Text)
		}
	}
	return strings.Join(words, " ")
}

// P3.4: the texts of random modules have trees that are Right, the same ones.
func TestRandomTexts(t *testing.T) {
	for seed := range int64(2000) {
		m := &maker{Rand: rand.New(rand.NewSource(seed))}
		w := &writer{place: inOrder(m), choose: func() bool { return m.Intn(8) == 0 }}
		w.module(m.module())
		text := sourceOf(w.tokens)
		want, d := parse.Parse(w.tokens)
		if d != (api.Diag{}) || len(text) > api.MaxFile {
			continue
		}
		if got := tree(t, text); say(got) != say(want) {
			t.Fatalf("seed %d: %s\ngot  %s\nwant %s", seed, text, say(got), say(want))
		}
	}
}

// sayAll is a tree with the positions of all nodes, even 0, 0.
func sayAll(n api.Node) string {
	return describe(n, func(n api.Node) string { return "@" + itoa(n.Line) + "." + itoa(n.Col) })
}

// deepest is how many brackets are open at once.
func deepest(ts []api.Token) int {
	open, most := 0, 0
	for _, t := range ts {
		if t.Kind != api.SignTok {
			continue
		}
		switch t.Text {
		case "(", "[", "{":
			open++
			most = max(most, open)
		case ")", "]", "}":
			open--
		}
	}
	return most
}

// A referee makes patterns and clauses of a tree as it is read, and notes all
// places at which something is wrong: word by word as the chapter says.
type referee struct {
	faults []api.Diag
}

// settled is the tree of a module, or the first fault in it.
func settled(n api.Node) (api.Node, api.Diag) {
	var r referee
	n = r.plain(n)
	if len(r.faults) == 0 {
		return n, api.Diag{}
	}
	return api.Node{}, slices.MinFunc(r.faults, func(a, b api.Diag) int {
		return cmp.Or(a.Line-b.Line, a.Col-b.Col)
	})
}

func (r *referee) fault(n api.Node) {
	r.faults = append(r.faults, api.Diag{Line: n.Line, Col: n.Col, Number: api.ErrPattern})
}

func each(subs []api.Node, one func(api.Node) api.Node) []api.Node {
	var out []api.Node
	for _, x := range subs {
		out = append(out, one(x))
	}
	return out
}

// plain is for what is no pattern.
func (r *referee) plain(n api.Node) api.Node {
	subs := n.Subs
	switch n.Kind {
	case api.EWild, api.EAs:
		r.fault(n)
		return n
	case api.EDo:
		if len(subs) == 0 || subs[len(subs)-1].Kind == api.SGen || subs[len(subs)-1].Kind == api.SLet {
			r.fault(n)
		}
	case api.ELam:
		subs[0].Subs = each(subs[0].Subs, r.pattern)
		n.Subs = []api.Node{subs[0], r.plain(subs[1])}
		return n
	case api.EAlt, api.SGen, api.DPat:
		n.Subs = []api.Node{r.pattern(subs[0]), r.plain(subs[1])}
		return n
	case api.DInst:
		n.Subs = []api.Node{subs[0], subs[1], r.plain(subs[2])}
		for _, d := range n.Subs[2].Subs {
			if d.Kind == api.DPat {
				r.fault(d)
			}
		}
		return n
	case api.List:
		n.Subs = r.group(each(subs, r.declaration))
		return n
	}
	n.Subs = each(subs, r.plain)
	return n
}

// declaration makes a DFun of an equation that is a clause.
func (r *referee) declaration(n api.Node) api.Node {
	if n.Kind != api.DPat {
		return r.plain(n)
	}
	left := n.Subs[0]
	head, arguments := left, []api.Node{}
	for head.Kind == api.EApp {
		arguments = append([]api.Node{head.Subs[1]}, arguments...)
		head = head.Subs[0]
	}
	first := -1
	if left.Kind == api.EOps {
		for i, x := range left.Subs {
			if first < 0 && i%2 == 1 && x.N == 0 {
				first = i
			}
		}
	}
	switch {
	case first > 0:
		head = left.Subs[first]
		arguments = []api.Node{part(left.Subs[:first]), part(left.Subs[first+1:])}
	case head.Kind != api.EVar:
		return r.plain(n)
	}
	clause := node(api.DClause, node(api.List, each(arguments, r.pattern)...), r.plain(n.Subs[1]))
	return placed(call(api.DFun, head.Name, placed(clause, n.Line, n.Col)), n.Line, n.Col)
}

// part is some of the operands and operators of an expression.
func part(subs []api.Node) api.Node {
	if len(subs) == 1 {
		return subs[0]
	}
	return placed(node(api.EOps, subs...), subs[0].Line, subs[0].Col)
}

// group puts clauses together, from the last one on.
func (r *referee) group(list []api.Node) []api.Node {
	var runs [][]api.Node
	for i, d := range list {
		if i > 0 && hasPatterns(d) && hasPatterns(list[i-1]) && d.Name == list[i-1].Name {
			runs[len(runs)-1] = append(runs[len(runs)-1], d)
		} else {
			runs = append(runs, []api.Node{d})
		}
	}
	var out []api.Node
	for _, run := range runs {
		whole := run[0]
		for _, d := range run[1:] {
			whole.Subs = append(whole.Subs, d.Subs[0])
			if len(d.Subs[0].Subs[0].Subs) != len(whole.Subs[0].Subs[0].Subs) {
				r.fault(d.Subs[0])
			}
		}
		out = append(out, whole)
	}
	return out
}

func hasPatterns(d api.Node) bool {
	return d.Kind == api.DFun && len(d.Subs[0].Subs[0].Subs) > 0
}

func (r *referee) pattern(n api.Node) api.Node {
	switch n.Kind {
	case api.EVar:
		n.Kind = api.PVar
	case api.EWild:
		n.Kind = api.PWild
	case api.EInt:
		n.Kind = api.PInt
	case api.EStr:
		n.Kind = api.PStr
	case api.ECon:
		n.Kind = api.PCon
	case api.EAs:
		return r.composed(n, api.PAs)
	case api.ETup:
		return r.composed(n, api.PTup)
	case api.EList:
		return r.composed(n, api.PList)
	case api.EMake:
		n.Kind = api.PMake
		n.Subs = each(n.Subs, func(f api.Node) api.Node { return r.composed(f, api.EField) })
	case api.EApp:
		return r.applied(n)
	case api.EOps:
		n.Kind = api.POps
		n.Subs = each(n.Subs, func(x api.Node) api.Node {
			if x.Kind != api.EOp {
				return r.pattern(x)
			}
			if x.N == 0 {
				r.fault(x)
			}
			return x
		})
	default:
		r.fault(n)
	}
	return n
}

func (r *referee) composed(n api.Node, kind int) api.Node {
	n.Kind = kind
	n.Subs = each(n.Subs, r.pattern)
	return n
}

// applied adds an argument to the pattern of a constructor and those ahead.
func (r *referee) applied(n api.Node) api.Node {
	f, argument := n.Subs[0], r.pattern(n.Subs[1])
	switch f.Kind {
	case api.EApp:
		f = r.applied(f)
	case api.ECon:
		f = r.pattern(f)
	default:
		r.fault(f)
	}
	f.Subs = append(slices.Clone(f.Subs), argument)
	return f
}
