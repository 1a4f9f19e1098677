package typing

import "teasel/api"

// expression leaves it to do that an expression has a type.
func (s *solver) expression(g *group, e *api.Node, t *term) {
	s.later(func() { s.visit(g, e, t) })
}

// visit is the constraints of an expression. What it uses of its parts is left
// to do, as expressions may be too deep for calls within calls: what is left last
// is done first, so that names are bound ahead of their uses.
func (s *solver) visit(g *group, e *api.Node, t *term) {
	switch e.Kind {
	case api.EVar, api.ECon:
		s.unify(s.use(g, e.Name, &use{at: e}), t)
	case api.EInt:
		s.unify(integer(), t)
	case api.EStr:
		s.unify(listOf(integer()), t)
	case api.EApp:
		s.apply(g, &e.Subs[0], &e.Subs[1], t)
	case api.ELeft:
		s.apply(g, &e.Subs[1], &e.Subs[0], t)
	case api.ERight:
		s.right(g, &e.Subs[0], &e.Subs[1], t)
	case api.ELam:
		result := s.fresh(g)
		s.expression(g, &e.Subs[1], result)
		s.patterns(g, e.Subs[0].Subs, t, result)
	case api.ELet:
		s.expression(g, &e.Subs[1], t)
		s.local(g, &e.Subs[0])
	case api.EIf:
		s.expression(g, &e.Subs[0], truth())
		s.expression(g, &e.Subs[1], t)
		s.expression(g, &e.Subs[2], t)
	case api.ECase:
		s.cases(g, e, t)
	case api.EDo:
		s.statements(g, e.Subs, t)
	case api.ETup:
		s.unify(tupleOf(s.each(g, e.Subs, s.expression)...), t)
	case api.EList:
		element := s.fresh(g)
		s.unify(listOf(element), t)
		s.all(g, e.Subs, element, s.expression)
	case api.EMake:
		s.record(g, e, t, s.expression)
	case api.EPut:
		s.put(g, e, t)
	}
}

// rule leaves it to do that an expression, or a pattern, has a type.
type rule func(*group, *api.Node, *term)

// each is the types of several parts.
func (s *solver) each(g *group, parts []api.Node, do rule) []*term {
	types := make([]*term, len(parts))
	for i := range parts {
		types[i] = s.fresh(g)
		do(g, &parts[i], types[i])
	}
	return types
}

// all is several parts that have the same type.
func (s *solver) all(g *group, parts []api.Node, t *term, do rule) {
	for i := range parts {
		do(g, &parts[i], t)
	}
}

func (s *solver) apply(g *group, f, argument *api.Node, t *term) {
	a := s.fresh(g)
	s.expression(g, argument, a)
	s.expression(g, f, function(t, a))
}

// right is an operator that lacks what stands to the left of it.
func (s *solver) right(g *group, operator, argument *api.Node, t *term) {
	a, b, result := s.fresh(g), s.fresh(g), s.fresh(g)
	s.unify(function(result, a), t)
	s.expression(g, argument, b)
	s.expression(g, operator, function(result, a, b))
}

func (s *solver) cases(g *group, e *api.Node, t *term) {
	of := s.fresh(g)
	for i := range e.Subs[1:] {
		alternative := &e.Subs[1+i]
		s.later(func() {
			s.rhs(g, &alternative.Subs[1], t)
			s.pattern(g, &alternative.Subs[0], of)
		})
	}
	s.expression(g, &e.Subs[0], of)
}

// statements is the constraints of an EDo from one of its statements on.
func (s *solver) statements(g *group, all []api.Node, t *term) {
	first := &all[0]
	if len(all) == 1 {
		s.expression(g, first, t)
		return
	}
	rest := t
	if first.Kind != api.SLet {
		rest = s.fresh(g)
	}
	s.later(func() { s.statements(g, all[1:], rest) })
	if first.Kind == api.SLet {
		s.local(g, &first.Subs[0])
		return
	}
	action, result := s.fresh(g), s.fresh(g)
	s.unify(s.use(g, bindName, &use{at: first, binds: true}), function(t, action, function(rest, result)))
	if first.Kind != api.SGen {
		s.expression(g, first, action)
		return
	}
	s.pattern(g, &first.Subs[0], result)
	s.expression(g, &first.Subs[1], action)
}

// construct is the types of the fields of a constructor that makes a type.
func (s *solver) construct(g *group, con string, t *term) []*term {
	fields, result := split(s.use(g, con, &use{}), s.program.known[con].fields)
	s.unify(result, t)
	return fields
}

// record is the constraints of an EMake or PMake.
func (s *solver) record(g *group, n *api.Node, t *term, do rule) {
	fields := s.construct(g, n.Name, t)
	for i := range n.Subs {
		f := &n.Subs[i]
		do(g, &f.Subs[0], fields[s.program.fields[f.Name].at])
	}
}

func (s *solver) put(g *group, e *api.Node, t *term) {
	con := s.program.fields[e.Subs[1].Name].con
	fields := s.construct(g, con, t)
	for i := range e.Subs[1:] {
		f := &e.Subs[1+i]
		known := s.program.fields[f.Name]
		if known.con != con {
			s.failed = true
			return
		}
		s.expression(g, &f.Subs[0], fields[known.at])
	}
	s.expression(g, &e.Subs[0], t)
}

// pattern leaves it to do that a pattern has a type.
func (s *solver) pattern(g *group, p *api.Node, t *term) {
	s.later(func() { s.match(g, p, t) })
}

// match is the constraints of a pattern.
func (s *solver) match(g *group, p *api.Node, t *term) {
	switch p.Kind {
	case api.PVar:
		s.bind(p.Name, t)
	case api.PAs:
		s.bind(p.Name, t)
		s.pattern(g, &p.Subs[0], t)
	case api.PInt:
		s.unify(integer(), t)
	case api.PStr:
		s.unify(listOf(integer()), t)
	case api.PTup:
		s.unify(tupleOf(s.each(g, p.Subs, s.pattern)...), t)
	case api.PList:
		element := s.fresh(g)
		s.unify(listOf(element), t)
		s.all(g, p.Subs, element, s.pattern)
	case api.PMake:
		s.record(g, p, t, s.pattern)
	case api.PCon:
		fields := s.construct(g, p.Name, t)
		if len(fields) != len(p.Subs) {
			s.failed = true
			return
		}
		for i := range p.Subs {
			s.pattern(g, &p.Subs[i], fields[i])
		}
	}
}
