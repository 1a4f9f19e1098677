package demand_test

import (
	"strconv"

	"teasel/api"
)

// A run of a program as chapter 10's section on the meaning of Core has it.

// outcome is what a run has written, all that it has done that could be told from
// something else, in order, and how it ends.
type outcome struct {
	out, done string
	end, code int
}

func (o outcome) api() api.Outcome { return api.Outcome{Out: o.out, End: o.end, Code: o.code} }

// cell is an expression with the cells to which its variables refer, or a value.
type cell struct {
	e     *api.Expr
	env   *env
	busy  bool
	value *value
}

// env is the cells of names, the latest one first.
type env struct {
	name string
	cell *cell
	next *env
}

func (n *env) with(name string, c *cell) *env { return &env{name: name, cell: c, next: n} }

func (n *env) find(name string) *cell {
	for n.name != name {
		n = n.next
	}
	return n.cell
}

// value is a number, a constructor with its fields, or a function that still
// needs arguments.
type value struct {
	kind   int // api.Lit, api.Con or api.Lam
	n      int
	con    string
	fields []*cell
	names  []string
	body   *api.Expr
	env    *env
}

// end is how a run ends ahead of its value.
type end struct{ how int }

type runner struct {
	cons  map[string]api.Cons
	input string
	out   []byte
	done  []byte // Get, Put, Raise, Quot and Rem, with their numbers
	steps int    // those that are left
}

// run is the outcome of a program, which is Running if it takes more steps.
func run(p api.Program, input string, steps int) (o outcome) {
	r := &runner{cons: map[string]api.Cons{}, input: input, steps: steps}
	for _, c := range p.Cons {
		r.cons[c.Name] = c
	}
	defer func() {
		stop := recover()
		if e, early := stop.(end); early {
			o.end = e.how
		} else if stop != nil {
			panic(stop)
		}
		o.out, o.done = string(r.out), string(r.done)
	}()
	call := let(app(v(api.Main), con(api.Unit)), p.Binds...)
	box := r.eval(&call, nil)
	r.need(box.kind == api.Con && box.con == api.Box)
	o.code = r.number(r.force(box.fields[0]))
	o.end = api.Done
	return
}

func (r *runner) need(ok bool) {
	if !ok {
		panic(end{api.Wrong})
	}
}

func (r *runner) number(x *value) int {
	r.need(x.kind == api.Lit)
	return x.n
}

func (r *runner) force(c *cell) *value {
	if c.value == nil {
		if c.busy {
			panic(end{api.Running})
		}
		c.busy = true
		c.value = r.eval(c.e, c.env)
	}
	return c.value
}

func (r *runner) cells(of []api.Expr, n *env) []*cell {
	var all []*cell
	for i := range of {
		all = append(all, &cell{e: &of[i], env: n})
	}
	return all
}

func (r *runner) eval(e *api.Expr, n *env) *value {
	r.steps--
	if r.steps < 0 {
		panic(end{api.Running})
	}
	switch e.Kind {
	case api.Var:
		return r.force(n.find(e.Name))
	case api.Lit:
		return &value{kind: api.Lit, n: e.N}
	case api.Lam:
		return &value{kind: api.Lam, names: e.Names, body: &e.Subs[0], env: n}
	case api.Con:
		return &value{kind: api.Con, con: e.Name, fields: r.cells(e.Subs, n)}
	case api.App:
		return r.apply(r.eval(&e.Subs[0], n), r.cells(e.Subs[1:], n))
	case api.Let:
		var cells []*cell
		for i := range e.Binds {
			cells = append(cells, &cell{e: &e.Binds[i].Expr})
			n = n.with(e.Binds[i].Name, cells[i])
		}
		for _, c := range cells {
			c.env = n
		}
		return r.eval(&e.Subs[0], n)
	case api.Case:
		return r.choose(r.eval(&e.Subs[0], n), e, n)
	}
	return r.prim(e, n)
}

func (r *runner) apply(f *value, args []*cell) *value {
	for len(args) > 0 {
		r.need(f.kind == api.Lam)
		count, n := min(len(f.names), len(args)), f.env
		for i := range count {
			n = n.with(f.names[i], args[i])
		}
		if count < len(f.names) {
			return &value{kind: api.Lam, names: f.names[count:], body: f.body, env: n}
		}
		f, args = r.eval(f.body, n), args[count:]
	}
	return f
}

func (r *runner) choose(x *value, e *api.Expr, n *env) *value {
	for _, a := range e.Alts {
		r.need(a.Kind != api.LitAlt || x.kind == api.Lit)
		r.need(a.Kind != api.ConAlt || x.kind == api.Con && (a.Name == x.con || r.cons[a.Name].Tag != r.cons[x.con].Tag))
	}
	n = n.with(e.Name, &cell{value: x})
	for i := range e.Alts {
		a := &e.Alts[i]
		switch {
		case a.Kind == api.ConAlt && a.Name == x.con:
			for j, name := range a.Names {
				n = n.with(name, x.fields[j])
			}
			return r.eval(&a.Body, n)
		case a.Kind == api.LitAlt && a.N == x.n, a.Kind == api.Default:
			return r.eval(&a.Body, n)
		}
	}
	panic(end{api.Wrong})
}

func (r *runner) prim(e *api.Expr, n *env) *value {
	var args []int
	for i := range e.Subs {
		args = append(args, r.number(r.eval(&e.Subs[i], n)))
	}
	truth := func(is bool) *value {
		return &value{kind: api.Con, con: map[bool]string{false: api.False, true: api.True}[is]}
	}
	result := 0
	switch e.Op {
	case api.Get, api.Put, api.Raise, api.Quot, api.Rem:
		r.done = strconv.AppendInt(append(r.done, ' '), int64(e.Op), 10)
		for _, n := range args {
			r.done = strconv.AppendInt(append(r.done, ','), int64(n), 10)
		}
	}
	switch e.Op {
	case api.Add:
		result = args[0] + args[1]
	case api.Minus:
		result = args[0] - args[1]
	case api.Mul:
		result = args[0] * args[1]
	case api.Quot, api.Rem:
		if args[1] == 0 {
			panic(end{api.Failed})
		}
		result = args[0] / args[1]
		if e.Op == api.Rem {
			result = args[0] % args[1]
		}
	case api.Eq:
		return truth(args[0] == args[1])
	case api.Lt:
		return truth(args[0] < args[1])
	case api.Le:
		return truth(args[0] <= args[1])
	case api.Get:
		result = -1
		if r.input != "" {
			result, r.input = int(r.input[0]), r.input[1:]
		}
	case api.Put:
		r.out = append(r.out, byte(args[0]))
		return &value{kind: api.Con, con: api.Unit}
	case api.Raise:
		panic(end{api.Failed})
	}
	return &value{kind: api.Lit, n: result}
}
