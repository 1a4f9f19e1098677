package core_test

import (
	"strconv"
	"testing"

	"teasel/api"
	"teasel/core"
)

// A run of a program as the chapter's section on the meaning of Core has it.

// cell is an expression with the cells to which its variables refer, or a value.
type cell struct {
	e     *api.Expr
	env   *env
	busy  bool
	value *value
}

// env is the cells of names, the latest one first.
type env struct {
	name string
	cell *cell
	next *env
}

func (n *env) with(name string, c *cell) *env { return &env{name: name, cell: c, next: n} }

func (n *env) find(name string) *cell {
	for n.name != name {
		n = n.next
	}
	return n.cell
}

// value is a number, a constructor with its fields, or a function that still
// needs arguments.
type value struct {
	kind   int // api.Lit, api.Con or api.Lam
	n      int
	con    string
	fields []*cell
	names  []string
	body   *api.Expr
	env    *env
}

// end is how a run ends ahead of its value.
type end struct{ how int }

type runner struct {
	cons  map[string]api.Cons
	input string
	out   []byte
	steps int // those that are left
}

// run is the outcome of a program, which is Running if it takes too many steps,
// and how many it took.
func run(p api.Program, input string, steps int) (o api.Outcome, left int) {
	r := &runner{cons: map[string]api.Cons{}, input: input, steps: steps}
	for _, c := range p.Cons {
		r.cons[c.Name] = c
	}
	defer func() {
		e, early := recover().(end)
		if early {
			o.End = e.how
		}
		o.Out, left = string(r.out), r.steps
	}()
	call := let(app(v(api.Main), con(api.Unit)), p.Binds...)
	box := r.eval(&call, nil)
	r.need(box.kind == api.Con && box.con == api.Box)
	o.Code = r.number(r.force(box.fields[0]))
	o.End = api.Done
	return
}

func (r *runner) need(ok bool) {
	if !ok {
		panic(end{api.Wrong})
	}
}

func (r *runner) number(x *value) int {
	r.need(x.kind == api.Lit)
	return x.n
}

func (r *runner) force(c *cell) *value {
	if c.value == nil {
		if c.busy {
			panic(end{api.Running})
		}
		c.busy = true
		c.value = r.eval(c.e, c.env)
	}
	return c.value
}

func (r *runner) cells(of []api.Expr, n *env) []*cell {
	var all []*cell
	for i := range of {
		all = append(all, &cell{e: &of[i], env: n})
	}
	return all
}

func (r *runner) eval(e *api.Expr, n *env) *value {
	r.steps--
	if r.steps < 0 {
		panic(end{api.Running})
	}
	switch e.Kind {
	case api.Var:
		return r.force(n.find(e.Name))
	case api.Lit:
		return &value{kind: api.Lit, n: e.N}
	case api.Lam:
		return &value{kind: api.Lam, names: e.Names, body: &e.Subs[0], env: n}
	case api.Con:
		return &value{kind: api.Con, con: e.Name, fields: r.cells(e.Subs, n)}
	case api.App:
		return r.apply(r.eval(&e.Subs[0], n), r.cells(e.Subs[1:], n))
	case api.Let:
		var cells []*cell
		for i := range e.Binds {
			cells = append(cells, &cell{e: &e.Binds[i].Expr})
			n = n.with(e.Binds[i].Name, cells[i])
		}
		for _, c := range cells {
			c.env = n
		}
		return r.eval(&e.Subs[0], n)
	case api.Case:
		return r.choose(r.eval(&e.Subs[0], n), e, n)
	}
	return r.prim(e, n)
}

func (r *runner) apply(f *value, args []*cell) *value {
	for len(args) > 0 {
		r.need(f.kind == api.Lam)
		count, n := min(len(f.names), len(args)), f.env
		for i := range count {
			n = n.with(f.names[i], args[i])
		}
		if count < len(f.names) {
			return &value{kind: api.Lam, names: f.names[count:], body: f.body, env: n}
		}
		f, args = r.eval(f.body, n), args[count:]
	}
	return f
}

func (r *runner) choose(x *value, e *api.Expr, n *env) *value {
	for _, a := range e.Alts {
		r.need(a.Kind != api.LitAlt || x.kind == api.Lit)
		r.need(a.Kind != api.ConAlt || x.kind == api.Con && (a.Name == x.con || r.cons[a.Name].Tag != r.cons[x.con].Tag))
	}
	n = n.with(e.Name, &cell{value: x})
	for i := range e.Alts {
		a := &e.Alts[i]
		switch {
		case a.Kind == api.ConAlt && a.Name == x.con:
			for j, name := range a.Names {
				n = n.with(name, x.fields[j])
			}
			return r.eval(&a.Body, n)
		case a.Kind == api.LitAlt && a.N == x.n, a.Kind == api.Default:
			return r.eval(&a.Body, n)
		}
	}
	panic(end{api.Wrong})
}

func (r *runner) prim(e *api.Expr, n *env) *value {
	var args []int
	for i := range e.Subs {
		args = append(args, r.number(r.eval(&e.Subs[i], n)))
	}
	truth := func(is bool) *value {
		return &value{kind: api.Con, con: map[bool]string{false: api.False, true: api.True}[is]}
	}
	result := 0
	switch e.Op {
	case api.Add:
		result = args[0] + args[1]
	case api.Minus:
		result = args[0] - args[1]
	case api.Mul:
		result = args[0] * args[1]
	case api.Quot, api.Rem:
		if args[1] == 0 {
			panic(end{api.Failed})
		}
		result = args[0] / args[1]
		if e.Op == api.Rem {
			result = args[0] % args[1]
		}
	case api.Eq:
		return truth(args[0] == args[1])
	case api.Lt:
		return truth(args[0] < args[1])
	case api.Le:
		return truth(args[0] <= args[1])
	case api.Get:
		result = -1
		if r.input != "" {
			result, r.input = int(r.input[0]), r.input[1:]
		}
	case api.Put:
		r.out = append(r.out, byte(args[0]))
		return &value{kind: api.Con, con: api.Unit}
	case api.Raise:
		panic(end{api.Failed})
	}
	return &value{kind: api.Lit, n: result}
}

// The chapter's example, and others whose outcomes are plain.
func TestRun(t *testing.T) {
	for _, c := range []struct {
		e    api.Expr
		want api.Outcome
	}{
		{lit(7), api.Outcome{End: api.Done, Code: 7}},
		{prim(api.Add, prim(api.Get), prim(api.Mul, prim(api.Get), prim(api.Get))), api.Outcome{End: api.Done, Code: 'a' - 'b'}},
		{cas(prim(api.Put, lit(256+'x')), "y", conAlt(api.Unit, "", prim(api.Raise))), api.Outcome{Out: "x", End: api.Failed}},
		{let(v("x"), bind("x", v("x"))), api.Outcome{End: api.Running}},
		{app(lam("f x", app(v("f"), v("x"))), lam("a b", prim(api.Minus, v("a"), v("b"))), lit(5), lit(3)), api.Outcome{End: api.Done, Code: 2}},
		{app(lit(1), lit(2)), api.Outcome{End: api.Wrong}},
		{cas(con("Cons", lit(1), prim(api.Raise)), "y", conAlt("Nil", "", lit(0)), conAlt("Cons", "h t", v("h"))), api.Outcome{End: api.Done, Code: 1}},
	} {
		p := answering(c.e)
		wantLint(t, say(c.e), api.OK, p)
		if got, _ := run(p, "ab", 1000); got != c.want {
			t.Errorf("%s: got %+v, want %+v", say(c.e), got, c.want)
		}
	}
}

// The types of what is made to be run.
const (
	number   = iota
	function // from numbers to numbers
	pair     // of numbers
)

type local struct {
	name string
	of   int
}

// typed makes an expression of a type, in which some names are bound.
func (m *maker) typed(of, levels int, scope []local) api.Expr {
	var fitting []string
	for _, l := range scope {
		if l.of == of {
			fitting = append(fitting, l.name)
		}
	}
	if len(fitting) > 0 && m.Intn(3) == 0 {
		return v(fitting[m.Intn(len(fitting))])
	}
	fresh := func() string {
		m.count++
		return "n" + strconv.Itoa(m.count)
	}
	with := func(l ...local) []local { return append(scope[:len(scope):len(scope)], l...) }
	if levels <= 1 {
		switch of {
		case function:
			name := fresh()
			return lam(name, m.typed(number, 0, with(local{name, number})))
		case pair:
			return con("Pair", m.typed(number, 0, scope), m.typed(number, 0, scope))
		}
		return lit(m.Intn(6) - 2)
	}
	levels--
	a, b, c := fresh(), fresh(), fresh()
	switch m.Intn(8) {
	case 0:
		one, two := m.Intn(3), m.Intn(3)
		inner := with(local{a, one}, local{b, two})
		within := scope
		if m.Intn(6) == 0 {
			within = inner
		}
		return let(m.typed(of, levels, inner), bind(a, m.typed(one, levels, within)), bind(b, m.typed(two, levels, within)))
	case 1:
		return cas(m.typed(number, levels, scope), a, litAlt(0, m.typed(of, levels, scope)), litAlt(1, m.typed(of, levels, with(local{a, number}))), other(m.typed(of, levels, with(local{a, number}))))
	case 2:
		return cas(m.typed(pair, levels, scope), a, conAlt("Pair", b+" "+c, m.typed(of, levels, with(local{a, pair}, local{b, number}, local{c, number}))))
	case 3:
		return cas(prim(api.Put, m.typed(number, levels, scope)), a, other(m.typed(of, levels, scope)))
	case 4:
		return app(lam(a+" "+b, m.typed(of, levels, with(local{a, function}, local{b, pair}))), m.typed(function, levels, scope), m.typed(pair, levels, scope))
	}
	switch of {
	case function:
		if m.Intn(2) == 0 {
			return app(lam(a+" "+b, m.typed(number, levels, with(local{a, number}, local{b, number}))), m.typed(number, levels, scope))
		}
		return lam(a, m.typed(number, levels, with(local{a, number})))
	case pair:
		return con("Pair", m.typed(number, levels, scope), m.typed(number, levels, scope))
	}
	switch m.Intn(4) {
	case 0:
		return app(m.typed(function, levels, scope), m.typed(number, levels, scope))
	case 1:
		return cas(prim(api.Eq+m.Intn(3), m.typed(number, levels, scope), m.typed(number, levels, scope)), a, conAlt(api.True, "", m.typed(of, levels, scope)), conAlt(api.False, "", m.typed(of, levels, scope)))
	case 2:
		return prim(api.Get)
	}
	return prim(api.Add+m.Intn(5), m.typed(number, levels, scope), m.typed(number, levels, scope))
}

// renamedIn is a program with another name for what one of its binders binds.
func renamedIn(p api.Program, old, name string) api.Program {
	all := clone(let(lit(1), p.Binds...))
	changeBinders(&all, func(to *string) {
		if *to == old {
			*to = name
		}
	})
	p.Binds = all.Binds
	for i := range p.Binds {
		// Nothing binds the old name any more: it is free wherever it is left.
		p.Binds[i].Expr = core.Replace(p.Binds[i].Expr, old, v(name))
	}
	return p
}

// P10.6: renaming a name to one that occurs nowhere else does not change the
// meaning.
func TestRenaming(t *testing.T) {
	m := newMaker(4)
	ends := map[int]int{}
	for range 3000 {
		m.count = 0
		top := []local{{"q1", number}, {"q2", function}, {"q3", pair}}
		p := program()
		p.Binds[0] = boxed(m.typed(number, 7, top))
		for _, l := range top {
			// Only some of them use each other, since those that do seldom end.
			p.Binds = append(p.Binds, bind(l.name, m.typed(l.of, 3, top[m.Intn(4):])))
		}
		wantLint(t, sayBinds(p.Binds), api.OK, p)
		want, steps := run(p, "ab", 3000)
		ends[want.End]++
		names := []string{"q1", "q2", "q3"}
		for _, b := range p.Binds {
			names = append(names, core.Binders(b.Expr)...)
		}
		for range 5 {
			old := names[m.Intn(len(names))]
			again := renamedIn(p, old, "another")
			wantLint(t, sayBinds(again.Binds), api.OK, again)
			if got, left := run(again, "ab", 3000); got != want || left != steps {
				t.Fatalf("%s\n%s for another: got %+v, want %+v", sayBinds(p.Binds), old, got, want)
			}
			if core.Same(let(lit(1), p.Binds...), let(lit(1), again.Binds...)) {
				t.Fatalf("%s: %s is as it was", sayBinds(p.Binds), old)
			}
		}
	}
	t.Log(ends)
	if ends[api.Done] < 1000 || ends[api.Failed] < 40 || ends[api.Running] < 400 || ends[api.Wrong] > 0 {
		t.Error(ends)
	}
}
