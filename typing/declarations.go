package typing

import "teasel/api"

// open begins a group of declarations: each of its names has a single type.
func (s *solver) open(around *group, declarations ...*api.Node) {
	g := &group{around: around, level: atTop}
	if around != nil {
		g.level = around.level + 1
	}
	for _, name := range Bound(declarations...) {
		t := s.fresh(g)
		g.types = append(g.types, t)
		s.known[name] = &scheme{of: t, level: single, within: g}
	}
	s.later(func() { s.close(g, declarations...) })
	for _, d := range declarations {
		if d.Kind == api.DFun {
			g.functions = append(g.functions, d)
			s.clauses(g, d, s.known[d.Name].of)
			continue
		}
		g.patterns = true
		t := s.fresh(g)
		s.rhs(g, &d.Subs[1], t)
		s.pattern(g, &d.Subs[0], t)
	}
}

// close gives the names of a group their schemes.
func (s *solver) close(g *group, declarations ...*api.Node) {
	for _, t := range g.types {
		if t.isTooBig() {
			s.failed = true
			return
		}
	}
	for _, name := range Bound(declarations...) {
		s.known[name] = &scheme{of: s.known[name].of, level: g.level, within: g}
	}
	s.bound = append(s.bound, g.types...)
	s.closed = append(s.closed, g)
}

// local infers the types of the groups of a List ahead of all else that is left.
func (s *solver) local(g *group, at *api.Node) {
	if len(at.Subs) == 0 {
		return
	}
	groups := s.lists[at].groups
	for i := len(groups) - 1; i >= 0; i-- {
		declarations := groups[i]
		s.later(func() { s.open(g, declarations...) })
	}
}

// clauses is the constraints of a DFun.
func (s *solver) clauses(g *group, d *api.Node, t *term) {
	for i := range d.Subs {
		clause := &d.Subs[i]
		s.later(func() {
			result := s.fresh(g)
			s.rhs(g, &clause.Subs[1], result)
			s.patterns(g, clause.Subs[0].Subs, t, result)
		})
	}
}

// patterns is those of a function that has a type, and answers a result.
func (s *solver) patterns(g *group, patterns []api.Node, t, result *term) {
	arguments := make([]*term, len(patterns))
	for i := range patterns {
		arguments[i] = s.fresh(g)
		s.pattern(g, &patterns[i], arguments[i])
	}
	s.unify(t, function(result, arguments...))
}

// rhs is the constraints of a DRhs. Its declarations come first.
func (s *solver) rhs(g *group, rhs *api.Node, t *term) {
	s.later(func() {
		for i := range rhs.Subs[0].Subs {
			guard := &rhs.Subs[0].Subs[i]
			if guard.Subs[0].Kind != api.None {
				s.expression(g, &guard.Subs[0], truth())
			}
			s.expression(g, &guard.Subs[1], t)
		}
		s.local(g, &rhs.Subs[1])
	})
}

// method infers the types of a DFun of a DInst.
func (s *solver) method(inst, d *api.Node, params *Params) api.Errno {
	g := &group{level: atTop}
	t := s.methodType(inst, d)
	if t.isTooBig() {
		return api.ErrType
	}
	s.later(func() { s.closed = append(s.closed, g) })
	s.clauses(g, d, t)
	errno := s.solve()
	if errno == api.OK && s.program.takes != nothing {
		s.explain(params)
	}
	return errno
}

// methodType is the type that a DFun of a DInst must have. What stands for the
// variables in it are constructors that nothing else is named like; what the
// DInst gives of them are instances.
func (s *solver) methodType(inst, d *api.Node) *term {
	count := 0
	arbitrary := func(*term) *term {
		count++
		return newCon(arbitraryName(count))
	}
	variables := map[string]*term{}
	quantified := termOf(&inst.Subs[1], variables)
	own := &copier{from: atTop, made: map[*term]*term{}, other: arbitrary}
	of := own.copy(quantified)
	s.arbitrary = of.arguments()
	for _, p := range inst.Subs[0].Subs {
		con := own.variable(variables[p.Subs[0].Name]).name
		if _, found := s.given[slot{class: p.Name, con: con}]; !found {
			s.given[slot{class: p.Name, con: con}] = len(s.given)
		}
	}
	k := s.program.known[d.Name]
	c := &copier{from: atTop, made: map[*term]*term{k.preds[0].of: of}, other: arbitrary}
	return c.copy(k.of)
}
