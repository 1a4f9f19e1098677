package core

import (
	"maps"
	"slices"

	"teasel/api"
)

// free is the free names of an expression, rising; it is false for one with too
// many levels.
func (m *measurer) free(e *api.Expr) ([]string, bool) {
	x, ok := m.measure(e)
	if !ok {
		return nil, false
	}
	if x.bytes > mostBytes {
		return sharedFree(e), true
	}
	return freeIn(e), true
}

// finder finds free names.
type finder struct {
	open  map[string]int // by a name, how many binders of it are around
	found map[string]struct{}
}

func (f *finder) look(e *api.Expr) {
	if e.Kind == api.Var && f.open[e.Name] == 0 {
		f.found[e.Name] = struct{}{}
	}
	f.bind(1, e.Names)
	f.bindAll(1, e.Binds)
	for i := range e.Subs {
		f.look(&e.Subs[i])
	}
	for i := range e.Binds {
		f.look(&e.Binds[i].Expr)
	}
	f.bindAll(-1, e.Binds)
	f.bind(-1, e.Names)
	if e.Kind == api.Case {
		f.alternatives(e)
	}
}

func (f *finder) alternatives(e *api.Expr) {
	f.open[e.Name]++
	for i := range e.Alts {
		alt := &e.Alts[i]
		f.bind(1, alt.Names)
		f.look(&alt.Body)
		f.bind(-1, alt.Names)
	}
	f.open[e.Name]--
}

func (f *finder) bind(times int, names []string) {
	for _, name := range names {
		f.open[name] += times
	}
}

func (f *finder) bindAll(times int, binds []api.Bind) {
	for i := range binds {
		f.open[binds[i].Name] += times
	}
}

// sharedFree is the free names of an expression that is greater than its memory
// can be: so many of its names at a time as a word has bits, no part of it is
// looked at twice, in however many places it stands.
func sharedFree(root *api.Expr) []string {
	m := newMeasurer(0)
	m.measure(root)
	used := map[string]struct{}{}
	for _, e := range m.order {
		for i := range children(e) {
			if c := child(e, i); c.Kind == api.Var {
				used[c.Name] = struct{}{}
			}
		}
	}
	var free []string
	for names := range slices.Chunk(slices.Sorted(maps.Keys(used)), 64) {
		s := newSpread(root, names)
		for _, e := range slices.Backward(m.order) {
			s.from(e)
		}
		for _, name := range names {
			if s.free&s.bits[name] != 0 {
				free = append(free, name)
			}
		}
	}
	return free
}

// spread finds which of some names are free, from each expression to its
// children.
type spread struct {
	bits map[string]uint64    // one for each of the names
	open map[*api.Expr]uint64 // which of them are not bound on some way to an expression
	free uint64
}

func newSpread(root *api.Expr, names []string) *spread {
	s := &spread{bits: map[string]uint64{}, open: map[*api.Expr]uint64{}}
	for i, name := range names {
		s.bits[name] = 1 << i
		s.open[root] |= 1 << i
	}
	return s
}

func (s *spread) from(e *api.Expr) {
	open := s.without(s.open[e], e.Names)
	for i := range e.Binds {
		open &^= s.bits[e.Binds[i].Name]
	}
	for i := range e.Subs {
		s.to(&e.Subs[i], open)
	}
	for i := range e.Binds {
		s.to(&e.Binds[i].Expr, open)
	}
	for i := range e.Alts {
		s.to(&e.Alts[i].Body, s.without(open&^s.bits[e.Name], e.Alts[i].Names))
	}
}

func (s *spread) to(e *api.Expr, open uint64) {
	if e.Kind == api.Var {
		s.free |= open & s.bits[e.Name]
	} else if children(e) > 0 {
		s.open[e] |= open
	}
}

func (s *spread) without(open uint64, names []string) uint64 {
	for _, name := range names {
		open &^= s.bits[name]
	}
	return open
}
