package match

import (
	"slices"

	"teasel/api"
)

// then is what follows a pattern: it does that, and answers what follows then,
// or nil. It does not call that, since what follows may be too much for calls
// within calls.
type then func() then

// matcher matches one row.
type matcher struct {
	*compiler
	f    string     // the continuation's name
	open []api.Expr // the Lets and Cases around what follows, which they still lack
}

// all matches patterns from left to right, each against the Var at its place.
func (m *matcher) all(pats []api.Node, at []string, rest then) then {
	if len(pats) == 0 {
		return rest
	}
	return func() then {
		return m.match(&pats[0], at[0], m.all(pats[1:], at[1:], rest))
	}
}

func (m *matcher) match(p *api.Node, c string, rest then) then {
	switch p.Kind {
	case api.PWild:
		return rest
	case api.PVar, api.PAs:
		m.open = append(m.open, let(p.Name, variable(c), api.Expr{}))
		return m.all(p.Subs, []string{c}, rest)
	case api.PInt:
		m.look(c, m.fresh(), api.Alt{Kind: api.LitAlt, N: p.N}, false)
		return rest
	}
	return m.constructor(p, c, rest)
}

func (m *matcher) constructor(p *api.Node, c string, rest then) then {
	con := m.cons[constructorOf(p)]
	name := m.fresh()
	var fields []string
	for range con.Arity {
		fields = append(fields, m.fresh())
	}
	m.look(c, name, api.Alt{Kind: api.ConAlt, Name: con.Name, Names: fields}, con.Family == 1)
	pats, at := m.fieldsOf(p, fields)
	return m.all(pats, at, rest)
}

// look opens the Case of a Var, which fails for all others than one alternative
// has, if there are others.
func (m *matcher) look(c, name string, alt api.Alt, only bool) {
	alts := []api.Alt{alt}
	if !only {
		alts = append(alts, api.Alt{Kind: api.Default, Body: continuation(m.f)})
	}
	m.open = append(m.open, api.Expr{Kind: api.Case, Name: name, Subs: []api.Expr{variable(c)}, Alts: alts})
}

// closed is a Body with all that is open around it.
func (m *matcher) closed(body api.Expr) api.Expr {
	for _, e := range slices.Backward(m.open) {
		if e.Kind == api.Let {
			e.Subs[0] = body
		} else {
			e.Alts[0].Body = body
		}
		body = e
	}
	return body
}
