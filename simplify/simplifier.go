package simplify

import (
	"strconv"

	"teasel/api"
)

// simplifier goes through the expressions of a program.
type simplifier struct {
	binders map[string]*binder // by the program's names; those of a Case in the alternative that is simplified
	vars    []*node            // by their numbers
	next    int                // of the next fresh name
}

func (s *simplifier) fresh() string {
	s.next++
	return freshName(s.next - 1)
}

func freshName(n int) string { return "t#" + strconv.Itoa(n) }

func (s *simplifier) bind(name string) *binder {
	b := &binder{name: name}
	s.binders[name] = b
	return b
}

func (s *simplifier) bindAll(names []string) []*binder {
	var all []*binder
	for _, name := range names {
		all = append(all, s.bind(name))
	}
	return all
}

func (s *simplifier) variable(of *binder) *node {
	e := &node{kind: api.Var, of: of, number: len(s.vars)}
	s.vars = append(s.vars, e)
	of.count(1, e.number)
	return e
}

// simple is an expression that is simplified.
func (s *simplifier) simple(e *api.Expr, k *known) *node { return settled(s.ruled(e, k)) }

func (s *simplifier) ruled(e *api.Expr, k *known) *node {
	switch e.Kind {
	case api.Var:
		return s.variable(s.binders[e.Name])
	case api.Lit:
		return literal(e.N)
	case api.Let:
		return s.let(e, k)
	case api.Case:
		return s.caseOf(e, k)
	}
	made := &node{kind: e.Kind, name: e.Name, op: e.Op, names: s.bindAll(e.Names)}
	for i := range e.Subs {
		made.take(s.simple(&e.Subs[i], k))
	}
	switch e.Kind {
	case api.Lam:
		made.names = reversed(made.names)
		return merged(made)
	case api.App:
		return applied(made)
	case api.Prim:
		return folded(made)
	}
	return made
}

// merged is a Lam together with a Lam that is its body.
func merged(lam *node) *node {
	inner := lam.kids[0]
	if inner.kind != api.Lam {
		return lam
	}
	inner.names = append(inner.names, lam.names...)
	return inner
}

// applied is an App, by what its function is.
func applied(app *node) *node {
	f, args := app.kids[0], app.kids[1:]
	switch {
	case f.kind == api.App:
		return f.take(args...)
	case f.isRaise():
		forget(args...)
		return f
	case f.kind == api.Lam:
		return entered(f, args)
	}
	return inward(app)
}

// entered is a Lam's body with the arguments that the Lam has names for.
func entered(f *node, args []*node) *node {
	count := min(len(f.names), len(args))
	rest := len(f.names) - count
	names := reversed(f.names[rest:])
	inner := f.kids[0]
	if rest > 0 {
		f.names, inner = f.names[:rest], f
	} else if count < len(args) {
		inner = (&node{kind: api.App}).take(inner).take(args[count:]...)
	}
	return let(names, args[:count], inner)
}

// folded is what a Prim of Lits comes to.
func folded(prim *node) *node {
	if prim.op > api.Le || prim.kids[0].kind != api.Lit || prim.kids[1].kind != api.Lit {
		return prim
	}
	a, b := prim.kids[0].n, prim.kids[1].n
	switch prim.op {
	case api.Add:
		return literal(a + b)
	case api.Minus:
		return literal(a - b)
	case api.Mul:
		return literal(a * b)
	case api.Eq:
		return truth(a == b)
	case api.Lt:
		return truth(a < b)
	case api.Le:
		return truth(a <= b)
	}
	if b == 0 {
		return prim
	}
	if prim.op == api.Quot {
		return literal(a / b)
	}
	return literal(a % b)
}

func truth(is bool) *node {
	name := api.False
	if is {
		name = api.True
	}
	return &node{kind: api.Con, name: name}
}
