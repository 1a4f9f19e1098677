package stg_test

import (
	"slices"

	"teasel/api"
)

// A run of a program of STG itself, in which closures have nothing but their Free
// and what stands at the top, and a thunk without Update is evaluated each time.

// aValue is no Kind of a bind.
const aValue = 0

// object is a number, a constructor with its fields, or a closure with its Free and
// some arguments.
type object struct {
	kind   int // aValue: a number; api.SCell, api.SFun, api.SThunk
	n      int
	con    string
	fields []*object
	bind   *api.SBind
	free   *names
	args   []*object
	busy   bool
	is     *object // what an updated thunk has become
}

// names is the objects of names, the latest one first.
type names struct {
	name string
	is   *object
	next *names
}

func (n *names) with(name string, is *object) *names { return &names{name, is, n} }

func (n *names) find(name string) *object {
	for n != nil && n.name != name {
		n = n.next
	}
	if n == nil {
		return nil
	}
	return n.is
}

type machine struct {
	*runner
	top *names
}

// runStg is the outcome of a program of STG.
func runStg(q api.SProgram, input string, steps int) outcome {
	m := &machine{runner: newRunner(q.Cons, input, steps)}
	m.top = m.allocate(q.Binds, nil)
	return m.outcome(func() int {
		box := m.apply(m.force(m.find(api.Main, nil)), []*object{{kind: api.SCell, con: api.Unit}})
		m.need(box.kind == api.SCell && box.con == api.Box)
		code := m.force(box.fields[0])
		m.need(code.kind == aValue)
		return code.n
	})
}

func (m *machine) find(name string, n *names) *object {
	if o := n.find(name); o != nil {
		return o
	}
	if o := m.top.find(name); o != nil {
		return o
	}
	panic("no name " + name)
}

func (m *machine) atom(a api.Atom, n *names) *object {
	if a.Name == "" {
		return &object{kind: aValue, n: a.N}
	}
	return m.find(a.Name, n)
}

func (m *machine) atoms(all []api.Atom, n *names) []*object {
	var made []*object
	for _, a := range all {
		made = append(made, m.atom(a, n))
	}
	return made
}

// allocate is for binds that may use each other; those at the top are in no other
// ones.
func (m *machine) allocate(binds []api.SBind, n *names) *names {
	isTop := m.top == nil
	var made []*object
	for i := range binds {
		made = append(made, &object{kind: binds[i].Kind, con: binds[i].Con, bind: &binds[i]})
		n = n.with(binds[i].Name, made[i])
	}
	if isTop {
		m.top = n
		n = nil
	}
	for i, o := range made {
		o.fields = m.atoms(binds[i].Args, n)
		for _, name := range binds[i].Free {
			free := n.find(name)
			if free == nil {
				panic("nothing free of name " + name)
			}
			o.free = o.free.with(name, free)
		}
	}
	if isTop {
		return m.top
	}
	return n
}

func (m *machine) force(o *object) *object {
	switch {
	case o.kind != api.SThunk:
		return o
	case !o.bind.Update:
		return m.eval(&o.bind.Body[0], o.free)
	case o.busy:
		panic(end{api.Running})
	case o.is == nil:
		o.busy = true
		o.is = m.eval(&o.bind.Body[0], o.free)
		o.busy = false
	}
	return o.is
}

func (m *machine) apply(f *object, args []*object) *object {
	for len(args) > 0 {
		m.need(f.kind == api.SFun)
		all := slices.Concat(f.args, args)
		count := len(f.bind.Params)
		if len(all) < count {
			return &object{kind: api.SFun, bind: f.bind, free: f.free, args: all}
		}
		n := f.free
		for i, name := range f.bind.Params {
			n = n.with(name, all[i])
		}
		f, args = m.eval(&f.bind.Body[0], n), all[count:]
	}
	return f
}

func (m *machine) eval(e *api.Stg, n *names) *object {
	m.step()
	switch e.Kind {
	case api.SAtom:
		return m.force(m.atom(e.Args[0], n))
	case api.SCall:
		return m.apply(m.force(m.find(e.Name, n)), m.atoms(e.Args, n))
	case api.SCon:
		return &object{kind: api.SCell, con: e.Name, fields: m.atoms(e.Args, n)}
	case api.SPrim:
		var args []int
		for _, o := range m.atoms(e.Args, n) {
			if o.kind == api.SThunk {
				panic("an argument of a Prim that is not evaluated")
			}
			m.need(o.kind == aValue)
			args = append(args, o.n)
		}
		number, con := m.perform(e.Op, args)
		if con != "" {
			return &object{kind: api.SCell, con: con}
		}
		return &object{kind: aValue, n: number}
	case api.SCase:
		return m.choose(m.eval(&e.Subs[0], n), e, n)
	}
	return m.eval(&e.Subs[0], m.allocate(e.Binds, n))
}

func (m *machine) choose(o *object, e *api.Stg, n *names) *object {
	for _, a := range e.Alts {
		m.need(a.Kind != api.LitAlt || o.kind == aValue)
		m.need(a.Kind != api.ConAlt || o.kind == api.SCell && (a.Name == o.con || m.cons[a.Name].Tag != m.cons[o.con].Tag))
	}
	n = n.with(e.Name, o)
	for i := range e.Alts {
		a := &e.Alts[i]
		switch {
		case a.Kind == api.ConAlt && a.Name == o.con:
			for j, name := range a.Names {
				n = n.with(name, o.fields[j])
			}
			return m.eval(&a.Body, n)
		case a.Kind == api.LitAlt && a.N == o.n, a.Kind == api.Default:
			return m.eval(&a.Body, n)
		}
	}
	panic(end{api.Wrong})
}
