package match_test

import (
	"slices"
	"strconv"

	"teasel/api"
)

// A run of an expression as the document has the meaning of Core, as far as it
// is needed here. It notes what is written, and which cells a function gets that
// is bound to nothing: seen.

// cell is an expression with the cells to which its variables refer, or a value.
type cell struct {
	e     *api.Expr
	env   *env
	busy  bool
	value *value
}

// env is the cells of names, the latest one first.
type env struct {
	name string
	cell *cell
	next *env
}

func (n *env) with(name string, c *cell) *env { return &env{name: name, cell: c, next: n} }

func (n *env) find(name string) *cell {
	for n.name != name {
		n = n.next
	}
	return n.cell
}

// value is a number, a constructor with its fields, a function, or seen.
type value struct {
	kind   int // api.Lit, api.Con, api.Lam, or 0 for seen
	n      int
	con    string
	fields []*cell
	names  []string
	body   *api.Expr
	env    *env
}

const seen = "seen"

// How runs end ahead of their values.
const (
	failed  = "fails"
	endless = "does not end"
	wrong   = "is wrong"
)

type runner struct {
	cons map[string]api.Cons
	log  []string
}

// run is what a run notes, and how it ends.
func run(t api.Table, e api.Expr) (log []string) {
	r := &runner{cons: map[string]api.Cons{}}
	for _, c := range slices.Backward(t.Cons) {
		r.cons[c.Name] = c
	}
	defer func() {
		if end, early := recover().(string); early {
			r.log = append(r.log, end)
		}
		log = r.log
	}()
	x := r.eval(&e, nil)
	r.need(x.kind == api.Lit)
	r.log = append(r.log, "is "+strconv.Itoa(x.n))
	return
}

func (r *runner) need(ok bool) {
	if !ok {
		panic(wrong)
	}
}

func (r *runner) force(c *cell) *value {
	if c.value == nil {
		if c.busy {
			panic(endless)
		}
		c.busy = true
		c.value = r.eval(c.e, c.env)
	}
	return c.value
}

func (r *runner) cells(of []api.Expr, n *env) []*cell {
	var all []*cell
	for i := range of {
		all = append(all, &cell{e: &of[i], env: n})
	}
	return all
}

func (r *runner) eval(e *api.Expr, n *env) *value {
	switch e.Kind {
	case api.Var:
		if e.Name == seen {
			return &value{}
		}
		return r.force(n.find(e.Name))
	case api.Lit:
		return &value{kind: api.Lit, n: e.N}
	case api.Lam:
		return &value{kind: api.Lam, names: e.Names, body: &e.Subs[0], env: n}
	case api.Con:
		return &value{kind: api.Con, con: e.Name, fields: r.cells(e.Subs, n)}
	case api.App:
		return r.apply(r.eval(&e.Subs[0], n), r.cells(e.Subs[1:], n))
	case api.Let:
		var cells []*cell
		for i := range e.Binds {
			cells = append(cells, &cell{e: &e.Binds[i].Expr})
			n = n.with(e.Binds[i].Name, cells[i])
		}
		for _, c := range cells {
			c.env = n
		}
		return r.eval(&e.Subs[0], n)
	case api.Case:
		return r.choose(r.eval(&e.Subs[0], n), e, n)
	}
	return r.prim(e, n)
}

func (r *runner) apply(f *value, args []*cell) *value {
	if f.kind == 0 {
		note := "row " + strconv.Itoa(r.force(args[0]).n)
		for _, c := range args[1:] {
			note += " " + origin(c)
		}
		r.log = append(r.log, note)
		return &value{kind: api.Con, con: api.Unit}
	}
	r.need(f.kind == api.Lam && len(f.names) == len(args))
	n := f.env
	for i := range args {
		n = n.with(f.names[i], args[i])
	}
	return r.eval(f.body, n)
}

// origin is the name of what a cell stands for. Each value is told from others
// by the name of the Case in it.
func origin(c *cell) string {
	for c.e != nil && c.e.Kind == api.Var {
		c = c.env.find(c.e.Name)
	}
	if c.e == nil || c.e.Kind != api.Case {
		return "?"
	}
	return c.e.Name
}

func (r *runner) choose(x *value, e *api.Expr, n *env) *value {
	for _, a := range e.Alts {
		r.need(a.Kind != api.LitAlt || x.kind == api.Lit)
		r.need(a.Kind != api.ConAlt || x.kind == api.Con && (a.Name == x.con || r.cons[a.Name].Tag != r.cons[x.con].Tag))
	}
	n = n.with(e.Name, &cell{value: x})
	for i := range e.Alts {
		a := &e.Alts[i]
		switch {
		case a.Kind == api.ConAlt && a.Name == x.con:
			for j, name := range a.Names {
				n = n.with(name, x.fields[j])
			}
			return r.eval(&a.Body, n)
		case a.Kind == api.LitAlt && a.N == x.n, a.Kind == api.Default:
			return r.eval(&a.Body, n)
		}
	}
	panic(wrong)
}

func (r *runner) prim(e *api.Expr, n *env) *value {
	switch e.Op {
	case api.Put:
		x := r.eval(&e.Subs[0], n)
		r.log = append(r.log, "w"+strconv.Itoa(x.n))
		return &value{kind: api.Con, con: api.Unit}
	case api.Raise:
		panic(failed)
	}
	panic(wrong)
}
