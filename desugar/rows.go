package desugar

import (
	"slices"

	"teasel/api"
	"teasel/match"
)

// row is patterns, and what is meant if they match. That may go on with the next
// row, by the name of what does so.
type row struct {
	pats  []api.Node
	falls bool
	body  func(next string) api.Expr
}

// row is one whose patterns stand in a module.
func (t *translator) row(pats []api.Node, body func(next string) api.Expr) row {
	r := row{body: body}
	for i := range pats {
		r.pats = append(r.pats, t.pattern(&pats[i], 1, t.name))
	}
	return r
}

// guarded is a row with a DRhs.
func (t *translator) guarded(pats []api.Node, rhs *api.Node) row {
	r := t.row(pats, func(next string) api.Expr { return t.rhs(rhs, next) })
	r.falls = falls(rhs)
	return r
}

// falls says whether no guard of a DRhs may be True.
func falls(rhs *api.Node) bool {
	return rhs.Subs[0].Subs[0].Subs[0].Kind != api.None
}

// rhs is the declarations of a DRhs around its guards. Without a next row it
// fails if no guard is True.
func (t *translator) rhs(rhs *api.Node, next string) api.Expr {
	e := raise()
	if next != "" {
		e = goOn(next)
	}
	for i := range slices.Backward(rhs.Subs[0].Subs) {
		guard := &rhs.Subs[0].Subs[i]
		value := t.expression(&guard.Subs[1])
		if guard.Subs[0].Kind == api.None {
			e = value
			continue
		}
		e = t.conditional(t.expression(&guard.Subs[0]), value, e)
	}
	return let(e, t.binds(&rhs.Subs[1])...)
}

// isLast says whether no rows behind these are ever looked at.
func (t *translator) isLast(rows ...row) bool {
	last := rows[len(rows)-1]
	table := t.table(last.pats...)
	return !last.falls && !slices.ContainsFunc(last.pats, func(p api.Node) bool { return !match.Sure(table, p) })
}

// closed is a function with one row.
func (t *translator) closed(r row) api.Expr {
	names := t.several(len(r.pats))
	return lam(t.match(names, r), names...)
}

// match is the expression for rows. It is compiled with names in place of their
// bodies, which are put there then: so each is translated where it stands, and
// is not looked through for all that is around it.
func (t *translator) match(names []string, rows ...row) api.Expr {
	holes := map[string]row{}
	var compiled []api.Row
	var all []api.Node
	for _, r := range rows {
		r = t.cut(r)
		name := t.fresh()
		holes[name] = r
		body := variable(name)
		if r.falls {
			body = app(body, variable(api.Next))
		}
		compiled = append(compiled, api.Row{Pats: r.pats, Body: body})
		all = append(all, r.pats...)
	}
	e, next, errno := match.Compile(t.table(all...), names, t.next, compiled...)
	if errno != api.OK {
		t.spend(api.MaxNodes + 1) // only what is too great is not compiled
	}
	if t.isFull() {
		return raise()
	}
	t.next = next
	t.fill(&e, holes)
	return e
}

// fill puts the bodies of rows in the place of their names. A variable of a
// pattern is only another name of what it matches: the latter does in the body,
// which so stands in one Let less.
func (t *translator) fill(e *api.Expr, holes map[string]row) {
	left := []*api.Expr{e}
	for len(left) > 0 {
		last := left[len(left)-1]
		left = left[:len(left)-1]
		if r, next := holeAt(last, holes); r.body != nil {
			*last = r.body(next)
			continue
		}
		if last.Kind == api.Let && last.Binds[0].Expr.Kind == api.Var {
			t.others[last.Binds[0].Name] = called{name: last.Binds[0].Expr.Name}
			*last = last.Subs[0]
			left = append(left, last)
			continue
		}
		for i := range last.Subs {
			left = append(left, &last.Subs[i])
		}
		for i := range last.Binds {
			left = append(left, &last.Binds[i].Expr)
		}
		for i := range last.Alts {
			left = append(left, &last.Alts[i].Body)
		}
	}
}

// holeAt is the row whose body is missing at an expression, if one is, and the
// name of what goes on with the next row, if the body may.
func holeAt(e *api.Expr, holes map[string]row) (row, string) {
	if e.Kind == api.App && e.Subs[0].Kind == api.Var && holes[e.Subs[0].Name].body != nil {
		return holes[e.Subs[0].Name], e.Subs[1].Subs[0].Name
	}
	if e.Kind == api.Var {
		return holes[e.Name], ""
	}
	return row{}, ""
}
