package desugar

import (
	"slices"

	"teasel/api"
)

// bindFunction is what an EDo uses.
const bindFunction = "Prelude.>>="

// expression is an expression as one of Core. It has one node at least, so that
// this is not called within itself more often than a program may have nodes.
func (t *translator) expression(n *api.Node) api.Expr {
	if !t.spend(1) {
		return raise()
	}
	n, lets := t.inner(n)
	e := t.how[n.Kind](n)
	for _, binds := range slices.Backward(lets) {
		e = let(e, binds...)
	}
	return e
}

// inner is an expression without the declarations around it, and what these bind,
// which may be nothing, so that they need no node. An EDo of one statement is that.
func (t *translator) inner(n *api.Node) (*api.Node, [][]api.Bind) {
	var lets [][]api.Bind
	for {
		switch {
		case n.Kind == api.ELet:
			lets = append(lets, t.binds(&n.Subs[0]))
			n = &n.Subs[1]
		case n.Kind == api.EDo && n.Subs[0].Kind == api.SLet:
			lets = append(lets, t.binds(&n.Subs[0].Subs[0]))
			n = statements(n.Subs[1:])
		case n.Kind == api.EDo && len(n.Subs) == 1:
			n = &n.Subs[0]
		default:
			return n, lets
		}
	}
}

// statements is an EDo.
func statements(all []api.Node) *api.Node { return &api.Node{Kind: api.EDo, Subs: all} }

func (t *translator) each(nodes []api.Node) []api.Expr {
	var all []api.Expr
	for i := range nodes {
		all = append(all, t.expression(&nodes[i]))
		if t.isFull() {
			break
		}
	}
	return all
}

// value is a variable, which takes what stands for its preds ahead of other
// arguments.
func (t *translator) value(n *api.Node, args ...api.Expr) api.Expr {
	return app(variable(t.name(n.Name)), append(t.args(t.program.Uses[n]), args...)...)
}

// construct is a constructor with fields, or with the first ones.
func (t *translator) construct(name string, fields ...api.Expr) api.Expr {
	c := t.cons[name]
	if len(fields) == c.Arity {
		return con(name, fields...)
	}
	if !t.spend(c.Arity) {
		return raise()
	}
	names := t.several(c.Arity)
	return app(lam(con(name, variables(names...)...), names...), fields...)
}

// call is a function with arguments.
func (t *translator) call(f *api.Node, args ...api.Expr) api.Expr {
	switch f.Kind {
	case api.ECon:
		return t.construct(f.Name, args...)
	case api.EVar:
		return t.value(f, args...)
	}
	return app(t.expression(f), args...)
}

// application is a function with all arguments that follow it: they may be too
// many for calls within calls.
func (t *translator) application(n *api.Node) api.Expr {
	var args []api.Expr
	for ; n.Kind == api.EApp && !t.isFull(); n = &n.Subs[0] {
		args = append(args, t.expression(&n.Subs[1]))
	}
	slices.Reverse(args)
	return t.call(n, args...)
}

// right is an operator that lacks what stands to the left of it.
func (t *translator) right(n *api.Node) api.Expr {
	x := t.fresh()
	return lam(t.call(&n.Subs[0], variable(x), t.expression(&n.Subs[1])), x)
}

func (t *translator) choice(n *api.Node) api.Expr {
	return t.conditional(t.expression(&n.Subs[0]), t.expression(&n.Subs[1]), t.expression(&n.Subs[2]))
}

func (t *translator) tuple(n *api.Node) api.Expr {
	if len(n.Subs) == 2 {
		return con(pairName, t.each(n.Subs)...)
	}
	return con(tripleName, t.each(n.Subs)...)
}

func list(elements []api.Expr) api.Expr {
	e := con(emptyName)
	for _, x := range slices.Backward(elements) {
		e = con(linkName, x, e)
	}
	return e
}

// text is the list of the bytes of a text.
func (t *translator) text(text string) api.Expr {
	if !t.spend(2 * len(text)) {
		return raise()
	}
	bytes := make([]api.Expr, len(text))
	for i := range bytes {
		bytes[i] = number(int(text[i]))
	}
	return list(bytes)
}

func (t *translator) lambda(n *api.Node) api.Expr {
	return t.closed(t.row(n.Subs[0].Subs, func(string) api.Expr { return t.expression(&n.Subs[1]) }))
}

func (t *translator) cases(n *api.Node) api.Expr {
	of := t.expression(&n.Subs[0])
	var rows []row
	for i := range n.Subs[1:] {
		alternative := &n.Subs[1+i]
		rows = append(rows, t.guarded(alternative.Subs[:1], &alternative.Subs[1]))
		if t.isLast(rows...) {
			break
		}
	}
	x := t.fresh()
	return let(t.match([]string{x}, rows...), api.Bind{Name: x, Expr: of})
}

// action is an EDo that begins with an SGen or an expression, and goes on.
func (t *translator) action(n *api.Node) api.Expr {
	first := &n.Subs[0]
	pats, action := []api.Node{{Kind: api.PWild}}, first
	if first.Kind == api.SGen {
		pats, action = first.Subs[:1], &first.Subs[1]
	}
	args := append(t.args(t.program.Binds[first]), t.expression(action))
	if t.isFull() {
		return raise()
	}
	others := t.closed(t.row(pats, func(string) api.Expr { return t.expression(statements(n.Subs[1:])) }))
	return app(variable(t.name(bindFunction)), append(args, others)...)
}

// record is an EMake: what is not given of it fails.
func (t *translator) record(n *api.Node) api.Expr {
	arity := t.cons[n.Name].Arity
	if !t.spend(arity - len(n.Subs)) {
		return raise()
	}
	fields := make([]api.Expr, arity)
	for i := range fields {
		fields[i] = raise()
	}
	t.put(fields, n.Subs)
	return con(n.Name, fields...)
}

// put puts what EFields say in the place of some of the fields of a constructor.
func (t *translator) put(fields []api.Expr, parts []api.Node) {
	for i := range parts {
		f := &parts[i]
		fields[t.places[f.Name].at] = t.expression(&f.Subs[0])
	}
}

// update is an EPut, all of whose fields are of the same constructor.
func (t *translator) update(n *api.Node) api.Expr {
	c := t.cons[t.places[n.Subs[1].Name].con]
	names := t.fieldsOf(c)
	parts := n.Subs[1:]
	if !t.spend(c.Arity - len(parts)) {
		return raise()
	}
	fields := variables(names...)
	t.put(fields, parts)
	return t.take(t.expression(&n.Subs[0]), c, con(c.Name, fields...), names...)
}
