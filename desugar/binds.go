package desugar

import (
	"slices"

	"teasel/api"
	"teasel/typing"
)

// binds is what the declarations of a List bind.
func (t *translator) binds(list *api.Node) []api.Bind {
	var all []api.Bind
	for i := range list.Subs {
		all = append(all, t.bindsOf(&list.Subs[i])...)
	}
	return all
}

// bindsOf is what a DFun or a DPat binds.
func (t *translator) bindsOf(d *api.Node) []api.Bind {
	if t.isFull() {
		return nil
	}
	if d.Kind == api.DFun {
		return []api.Bind{{Name: t.name(d.Name), Expr: t.function(d)}}
	}
	return t.parts(d)
}

// function is a DFun, which takes what stands for its preds ahead of its
// arguments.
func (t *translator) function(d *api.Node) api.Expr {
	params := t.program.Params[d]
	if params == nil {
		names, body := t.clauses(d)
		return lam(body, names...)
	}
	s := t.open(params)
	names, body := t.clauses(d)
	return lam(let(body, s.binds...), append(s.names, names...)...)
}

// clauses is the arguments of a DFun, and the expression for its DClauses.
func (t *translator) clauses(d *api.Node) ([]string, api.Expr) {
	count := len(d.Subs[0].Subs[0].Subs)
	if count == 0 {
		return nil, t.rhs(&d.Subs[0].Subs[1], "")
	}
	var rows []row
	for i := range d.Subs {
		clause := &d.Subs[i]
		rows = append(rows, t.guarded(clause.Subs[0].Subs, &clause.Subs[1]))
		if t.isLast(rows...) {
			break
		}
	}
	names := t.several(count)
	return names, t.match(names, rows...)
}

// parts is the variables of a DPat. Its DRhs is bound once, and so are what they
// match, as pairs: of the first one, and of the others.
func (t *translator) parts(d *api.Node) []api.Bind {
	outer := typing.Bound(d)
	if len(outer) == 0 {
		return nil
	}
	var inner []string
	pattern := t.pattern(&d.Subs[0], 1, func(string) string {
		inner = append(inner, t.fresh())
		return inner[len(inner)-1]
	})
	if t.isFull() {
		return nil
	}
	whole, rest := t.fresh(), t.fresh()
	matched := t.match([]string{whole}, row{pats: []api.Node{pattern}, body: func(string) api.Expr { return t.pairs(inner) }})
	all := []api.Bind{{Name: whole, Expr: t.rhs(&d.Subs[1], "")}, {Name: rest, Expr: matched}}
	last := len(outer) - 1
	for _, name := range outer[:last] {
		x, others := t.half(rest, 0), t.half(rest, 1)
		rest = t.fresh()
		all = append(all, api.Bind{Name: t.name(name), Expr: x}, api.Bind{Name: rest, Expr: others})
	}
	all[len(all)-1].Name = t.name(outer[last])
	return all
}

// pairs is a pair of the first variable and of the pairs of the others.
func (t *translator) pairs(names []string) api.Expr {
	last := len(names) - 1
	e := variable(t.other(names[last]))
	for _, name := range slices.Backward(names[:last]) {
		e = con(pairName, variable(t.other(name)), e)
	}
	return e
}

// half selects one of the two parts of a pair.
func (t *translator) half(of string, at int) api.Expr {
	names := t.several(2)
	return t.take(variable(of), t.cons[pairName], variable(names[at]), names...)
}
