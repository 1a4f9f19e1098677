package desugar

import "teasel/api"

// sameText is the function that says whether a list is a text. Nothing else of
// Prim is called so.
const sameText = "Prim.same"

// A text in a pattern is compared by a function: a Case for each of its bytes
// would make five times as many nodes as the text has, and one within the other.
// Package match knows no such comparison, so a row is cut at its first text: what
// comes behind that is matched by a match of its own, inside the comparison, so
// that all is still looked at from left to right.

// column is a pattern, and what it is matched against.
type column struct {
	name string
	pat  api.Node
}

// cutter cuts a row.
type cutter struct {
	*translator
	late []column // from the first text on
}

// cut is a row without texts, whose body matches what it lacks of them.
func (t *translator) cut(r row) row {
	if !hasText(r.pats) {
		return r
	}
	c := &cutter{translator: t}
	early := row{pats: c.all(r.pats), falls: true}
	early.body = func(next string) api.Expr { return t.compare(c.late, r, next) }
	return early
}

func isText(p *api.Node) bool { return p.Kind == api.PStr && p.Name != "" }

func hasText(pats []api.Node) bool {
	left := [][]api.Node{pats}
	for len(left) > 0 {
		last := left[len(left)-1]
		left = left[:len(left)-1]
		for i := range last {
			if isText(&last[i]) {
				return true
			}
			left = append(left, last[i].Subs)
		}
	}
	return false
}

func (c *cutter) all(pats []api.Node) []api.Node {
	var all []api.Node
	for i := range pats {
		all = append(all, c.pattern(&pats[i]))
	}
	return all
}

// pattern is what is matched early of a pattern. Of a list, the elements behind a
// text are links whose order must be kept.
func (c *cutter) pattern(p *api.Node) api.Node {
	switch {
	case p.Kind == api.PVar || p.Kind == api.PWild:
		return *p
	case p.Kind != api.EField && (len(c.late) > 0 || isText(p)):
		x := c.fresh()
		c.late = append(c.late, column{name: x, pat: *p})
		return api.Node{Kind: api.PVar, Name: x}
	case p.Kind == api.PList && len(p.Subs) > 0:
		others := api.Node{Kind: api.PList, Subs: p.Subs[1:]}
		return api.Node{Kind: api.PCon, Name: linkName, Subs: []api.Node{c.pattern(&p.Subs[0]), c.pattern(&others)}}
	}
	return api.Node{Kind: p.Kind, Name: p.Name, N: p.N, Subs: c.all(p.Subs)}
}

// compare is the comparison with a text, and then all that comes behind it in a
// row.
func (t *translator) compare(late []column, r row, next string) api.Expr {
	t.compares = true
	test := app(variable(sameText), variable(t.other(late[0].name)), t.text(late[0].pat.Name))
	return t.conditional(test, t.behind(late[1:], r, next), goOn(next))
}

func (t *translator) behind(late []column, r row, next string) api.Expr {
	switch {
	case len(late) == 0:
		return r.body(next)
	case isText(&late[0].pat):
		return t.compare(late, r, next)
	}
	var names []string
	inner := row{falls: r.falls, body: r.body}
	other := row{body: func(string) api.Expr { return goOn(next) }}
	for _, c := range late {
		names = append(names, t.other(c.name))
		inner.pats = append(inner.pats, c.pat)
		other.pats = append(other.pats, api.Node{Kind: api.PWild})
	}
	return t.match(names, inner, other)
}

// comparison is the function itself: it looks at the links of the list and at its
// bytes one after the other, as their patterns would.
func (t *translator) comparison() api.Expr {
	x, text := t.fresh(), t.fresh()
	a, as, b, bs := t.fresh(), t.fresh(), t.fresh(), t.fresh()
	no := func() api.Alt { return otherwise(con(api.False)) }
	others := app(variable(sameText), variable(as), variable(bs))
	heads := t.conditional(prim(api.Eq, variable(a), variable(b)), others, con(api.False))
	links := t.look(variable(x), alternative(linkName, heads, a, as), no())
	ends := t.look(variable(x), alternative(emptyName, con(api.True)), no())
	return lam(t.look(variable(text), alternative(linkName, links, b, bs), otherwise(ends)), x, text)
}
