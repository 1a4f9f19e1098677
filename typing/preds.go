package typing

import (
	"slices"
	"strconv"

	"teasel/api"
)

// arbitraryName is the name of a constructor that stands for one of several
// arbitrary types. No type of a module is named so.
func arbitraryName(number int) string {
	return strconv.Itoa(number)
}

// needs is what an instance requires, or what a DInst gives, if there is one.
func (s *solver) needs(at slot) ([]api.Need, bool) {
	needs, found := s.program.insts[at]
	if !found {
		_, found = s.given[at]
	}
	return needs, found
}

// reduce tells the preds that one comes to, whose heads are variables.
func (s *solver) reduce(p pred, tell func(pred)) {
	left := []pred{p}
	for count := 1; len(left) > 0; count++ {
		if count > api.MaxPreds {
			s.failed = true
			return
		}
		last := left[len(left)-1]
		left = left[:len(left)-1]
		head := last.of.head()
		if head == s.unknown {
			continue
		}
		if head.kind == api.TVar {
			tell(last)
			continue
		}
		arguments := last.of.arguments()
		needs, found := s.needs(slot{class: last.class, con: head.name, arguments: len(arguments)})
		if !found {
			s.lacking = true
		}
		for _, n := range needs {
			left = append(left, pred{class: n.Class, of: arguments[n.Arg]})
		}
	}
}

// mostNodes is how many nodes, of 64 bytes each, copies of preds may have. What
// uses the one before it several times, for other types each time, may have far
// more: then there is no answer within the bounds that the document has.
const mostNodes = (1<<31 - 1) / 64

// copiesOf is the preds of a scheme where that is used.
func (s *solver) copiesOf(u *use) []pred {
	preds, _ := u.known.kept()
	var all []pred
	known := map[*term]*term{}
	for _, p := range preds {
		before := u.copier.nodes
		all = append(all, pred{class: p.class, of: u.copier.copyBeside(known, p.of)})
		s.nodes += 1 + u.copier.nodes - before
		if s.nodes > mostNodes {
			s.failed = true
			return nil
		}
	}
	return all
}

// reduced is the preds to which those come that are required in a group, each
// once.
func (s *solver) reduced(g *group) []pred {
	var all []pred
	met := map[pred]struct{}{}
	types := newUniques()
	add := func(p pred) {
		p.of = types.only(p.of)
		if _, found := met[p]; !found {
			met[p] = struct{}{}
			all = append(all, p)
		}
	}
	for _, p := range g.required {
		s.reduce(p, add)
	}
	c := &chains{types: types, numbers: map[link]int{}}
	known := map[int][]pred{}
	for _, u := range g.uses {
		u.copier.other = func(*term) *term { return s.unknown }
		chain := c.of(u)
		preds, found := known[chain]
		if !found {
			preds = s.copiesOf(u)
			known[chain] = preds
			for _, p := range preds {
				s.reduce(p, add)
			}
		}
		if s.failed {
			return nil
		}
		if s.program.takes == Dictionaries {
			u.preds = preds
		}
	}
	return all
}

// link is a scheme, or, behind others, what stands for one of its variables.
type link struct {
	scheme *scheme
	before int
	of     *term
}

// chains numbers what tells the preds of a use: there may be very many of them,
// and many uses that have the same ones.
type chains struct {
	types   *uniques
	numbers map[link]int
}

func (c *chains) of(u *use) int {
	last := c.number(link{scheme: u.known})
	_, variables := u.known.kept()
	for _, v := range variables {
		last = c.number(link{before: last, of: c.types.only(u.copier.variable(v))})
	}
	return last
}

func (c *chains) number(l link) int {
	if c.numbers[l] == 0 {
		c.numbers[l] = len(c.numbers) + 1
	}
	return c.numbers[l]
}

// own is the variables that are in the type of every name of a group, and not
// outer.
func (g *group) own() map[*term]struct{} {
	all := map[*term]struct{}{}
	if g.patterns {
		return all
	}
	counts := map[*term]int{}
	for _, t := range g.types {
		for _, v := range t.variables(g.level) {
			counts[v]++
			if counts[v] == len(g.types) {
				all[v] = struct{}{}
			}
		}
	}
	return all
}

// settle finds what becomes of the preds that are required in a group: some are
// passed on, some are gone when Int is put for their variables, and its names
// keep the others.
func (s *solver) settle(g *group) {
	own := g.own()
	var open []*term
	ambiguous := map[*term]struct{}{}
	for _, p := range s.reduced(g) {
		variables := p.of.variables(g.level)
		if len(variables) == 0 {
			g.passOn(p)
			continue
		}
		g.kept = append(g.kept, p)
		for _, v := range variables {
			if _, found := own[v]; found {
				continue
			}
			if v == p.of && s.hasInt(p.class) {
				open = append(open, v)
			} else {
				ambiguous[v] = struct{}{}
			}
		}
	}
	for _, v := range open {
		if _, found := ambiguous[v]; !found {
			s.replace(v)
		}
	}
	s.ambiguous = s.ambiguous || len(ambiguous) > 0
	g.kept = slices.DeleteFunc(g.kept, func(p pred) bool { return p.of.find().kind == api.TCon })
	types := make([]*term, len(g.kept))
	for i, p := range g.kept {
		types[i] = p.of
	}
	g.variables = variablesOf(g.level, types...)
}

// hasInt says whether Int is of a class.
func (s *solver) hasInt(class string) bool {
	_, found := s.needs(slot{class: class, con: integerName})
	return found
}

// passOn requires a pred in the next group around in which not all its variables
// are outer: those between would pass it on too.
func (g *group) passOn(p pred) {
	level := 0
	for _, v := range p.of.variables(atTop) {
		level = max(level, v.level)
	}
	to := g.around
	for to.level > level {
		to = to.around
	}
	to.required = append(to.required, p)
}

// replace puts Int for a variable, and for what stands for it where a scheme is
// used.
func (s *solver) replace(v *term) {
	left := []*term{v}
	for len(left) > 0 {
		t := left[len(left)-1].find()
		left = left[:len(left)-1]
		if t.kind == api.TVar {
			left = append(left, s.copies[t]...)
		}
		s.unify(t, integer())
	}
}
