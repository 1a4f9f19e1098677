package stg_test

import (
	"strconv"

	"teasel/api"
)

// A run of a program as chapter 10's section on the meaning of Core has it.

// outcome is what a run has written, all that it has done that could be told from
// something else, in order, and how it ends.
type outcome struct {
	out, done string
	end, code int
}

func (o outcome) api() api.Outcome { return api.Outcome{Out: o.out, End: o.end, Code: o.code} }

// store is a cell: an expression with the cells to which its variables refer, or a value.
type store struct {
	e     *api.Expr
	env   *env
	again bool // its value is not kept
	busy  bool
	value *value
}

// env is the cells of names, the latest one first.
type env struct {
	name string
	cell *store
	next *env
}

func (n *env) with(name string, c *store) *env { return &env{name: name, cell: c, next: n} }

func (n *env) find(name string) *store {
	for n.name != name {
		n = n.next
	}
	return n.cell
}

// value is a number, a constructor with its fields, or a function that still
// needs arguments.
type value struct {
	kind   int // api.Lit, api.Con or api.Lam
	n      int
	con    string
	fields []*store
	names  []string
	body   *api.Expr
	env    *env
}

// end is how a run ends ahead of its value.
type end struct{ how int }

type runner struct {
	cons  map[string]api.Cons
	input string
	out   []byte
	done  []byte          // Get, Put, Raise, Quot and Rem, with their numbers
	steps int             // those that are left
	again map[string]bool // of names in Lets: they are evaluated again each time
}

func newRunner(cons []api.Cons, input string, steps int) *runner {
	r := &runner{cons: map[string]api.Cons{}, input: input, steps: steps, again: map[string]bool{}}
	for _, c := range cons {
		r.cons[c.Name] = c
	}
	return r
}

// outcome is that of a run, which is Running if it takes more steps.
func (r *runner) outcome(run func() int) (o outcome) {
	defer func() {
		stop := recover()
		if e, early := stop.(end); early {
			o.end = e.how
		} else if stop != nil {
			panic(stop)
		}
		o.out, o.done = string(r.out), string(r.done)
	}()
	o.code = run()
	o.end = api.Done
	return
}

// run is the outcome of a program. Some names in Lets are evaluated again each time.
func run(p api.Program, input string, steps int, again ...string) outcome {
	r := newRunner(p.Cons, input, steps)
	for _, name := range again {
		r.again[name] = true
	}
	call := let(app(v(api.Main), con(api.Unit)), p.Binds...)
	return r.outcome(func() int {
		box := r.eval(&call, nil)
		r.need(box.kind == api.Con && box.con == api.Box)
		return r.number(r.force(box.fields[0]))
	})
}

func (r *runner) step() {
	r.steps--
	if r.steps < 0 {
		panic(end{api.Running})
	}
}

func (r *runner) need(ok bool) {
	if !ok {
		panic(end{api.Wrong})
	}
}

func (r *runner) number(x *value) int {
	r.need(x.kind == api.Lit)
	return x.n
}

func (r *runner) force(c *store) *value {
	if c.again {
		return r.eval(c.e, c.env)
	}
	if c.value == nil {
		if c.busy {
			panic(end{api.Running})
		}
		c.busy = true
		c.value = r.eval(c.e, c.env)
	}
	return c.value
}

func (r *runner) cells(of []api.Expr, n *env) []*store {
	var all []*store
	for i := range of {
		all = append(all, &store{e: &of[i], env: n})
	}
	return all
}

func (r *runner) eval(e *api.Expr, n *env) *value {
	r.step()
	switch e.Kind {
	case api.Var:
		return r.force(n.find(e.Name))
	case api.Lit:
		return &value{kind: api.Lit, n: e.N}
	case api.Lam:
		return &value{kind: api.Lam, names: e.Names, body: &e.Subs[0], env: n}
	case api.Con:
		return &value{kind: api.Con, con: e.Name, fields: r.cells(e.Subs, n)}
	case api.App:
		return r.apply(r.eval(&e.Subs[0], n), r.cells(e.Subs[1:], n))
	case api.Let:
		var cells []*store
		for i := range e.Binds {
			cells = append(cells, &store{e: &e.Binds[i].Expr, again: r.again[e.Binds[i].Name]})
			n = n.with(e.Binds[i].Name, cells[i])
		}
		for _, c := range cells {
			c.env = n
		}
		return r.eval(&e.Subs[0], n)
	case api.Case:
		return r.choose(r.eval(&e.Subs[0], n), e, n)
	}
	return r.prim(e, n)
}

func (r *runner) apply(f *value, args []*store) *value {
	for len(args) > 0 {
		r.need(f.kind == api.Lam)
		count, n := min(len(f.names), len(args)), f.env
		for i := range count {
			n = n.with(f.names[i], args[i])
		}
		if count < len(f.names) {
			return &value{kind: api.Lam, names: f.names[count:], body: f.body, env: n}
		}
		f, args = r.eval(f.body, n), args[count:]
	}
	return f
}

func (r *runner) choose(x *value, e *api.Expr, n *env) *value {
	for _, a := range e.Alts {
		r.need(a.Kind != api.LitAlt || x.kind == api.Lit)
		r.need(a.Kind != api.ConAlt || x.kind == api.Con && (a.Name == x.con || r.cons[a.Name].Tag != r.cons[x.con].Tag))
	}
	n = n.with(e.Name, &store{value: x})
	for i := range e.Alts {
		a := &e.Alts[i]
		switch {
		case a.Kind == api.ConAlt && a.Name == x.con:
			for j, name := range a.Names {
				n = n.with(name, x.fields[j])
			}
			return r.eval(&a.Body, n)
		case a.Kind == api.LitAlt && a.N == x.n, a.Kind == api.Default:
			return r.eval(&a.Body, n)
		}
	}
	panic(end{api.Wrong})
}

func (r *runner) prim(e *api.Expr, n *env) *value {
	var values []*value
	for i := range e.Subs {
		values = append(values, r.eval(&e.Subs[i], n))
	}
	var args []int
	for _, x := range values { // all are evaluated ahead of what does not fit
		args = append(args, r.number(x))
	}
	number, con := r.perform(e.Op, args)
	if con != "" {
		return &value{kind: api.Con, con: con}
	}
	return &value{kind: api.Lit, n: number}
}

// perform is the number, or the constructor, that a Prim comes to.
func (r *runner) perform(op int, args []int) (int, string) {
	truth := func(is bool) (int, string) { return 0, map[bool]string{false: api.False, true: api.True}[is] }
	switch op {
	case api.Get, api.Put, api.Raise, api.Quot, api.Rem:
		r.done = strconv.AppendInt(append(r.done, ' '), int64(op), 10)
		for _, n := range args {
			r.done = strconv.AppendInt(append(r.done, ','), int64(n), 10)
		}
	}
	switch op {
	case api.Add:
		return args[0] + args[1], ""
	case api.Minus:
		return args[0] - args[1], ""
	case api.Mul:
		return args[0] * args[1], ""
	case api.Quot, api.Rem:
		if args[1] == 0 {
			panic(end{api.Failed})
		}
		if op == api.Rem {
			return args[0] % args[1], ""
		}
		return args[0] / args[1], ""
	case api.Eq:
		return truth(args[0] == args[1])
	case api.Lt:
		return truth(args[0] < args[1])
	case api.Le:
		return truth(args[0] <= args[1])
	case api.Put:
		r.out = append(r.out, byte(args[0]))
		return 0, api.Unit
	case api.Raise:
		panic(end{api.Failed})
	}
	if r.input == "" {
		return -1, ""
	}
	byte := int(r.input[0])
	r.input = r.input[1:]
	return byte, ""
}
