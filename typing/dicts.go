package typing

import "teasel/api"

// Params is the dictionaries that each name of a group takes ahead of its
// arguments, one for each pred of its scheme, or those that the dictionary of a
// DInst takes, one for each of its Needs.
type Params struct {
	Count int
	level int
}

// Dict is a dictionary: one of some Params, or, with a Class, that of an
// instance, which is given others for its Needs.
type Dict struct {
	Params *Params // those that it is one of, or the innermost ones that it is made of; or nil
	At     int     // which one it is
	Class  string
	Con    string
	Parts  []*Dict
}

// maker makes the dictionaries for preds whose types are final, one for those
// that are the same.
type maker struct {
	*solver
	types   *uniques
	known   map[pred]*Dict
	lacking bool // whether there is none for some pred
}

func newMaker(s *solver) *maker {
	return &maker{solver: s, types: newUniques(), known: map[pred]*Dict{}}
}

func (m *maker) key(class string, of *term) pred {
	return pred{class: class, of: m.types.only(of)}
}

// add knows a dictionary. Preds of one group may have come to be the same when
// Int was put for a variable: then the first one does for all.
func (m *maker) add(class string, of *term, d *Dict) {
	if key := m.key(class, of); m.known[key] == nil {
		m.known[key] = d
	}
}

func (m *maker) dicts(preds ...pred) []*Dict {
	var all []*Dict
	for _, p := range preds {
		all = append(all, m.dict(m.key(p.class, p.of)))
	}
	return all
}

// dict makes the dictionary for a pred, and first those that it is made of. What
// is left of them is kept on a stack: types may be too deep for calls within
// calls.
func (m *maker) dict(p pred) *Dict {
	left := []pred{p}
	for len(left) > 0 && !m.lacking {
		last := left[len(left)-1]
		if m.known[last] == nil {
			if missing := m.try(last); len(missing) > 0 {
				left = append(left, missing...)
				continue
			}
		}
		left = left[:len(left)-1]
	}
	return m.known[p]
}

// try makes the dictionary for a pred, or answers the preds whose dictionaries
// have to be made first.
func (m *maker) try(p pred) []pred {
	head, arguments := p.of.head(), p.of.arguments()
	needs, found := m.program.insts[slot{class: p.class, con: head.name, arguments: len(arguments)}]
	if head.kind != api.TCon || !found {
		m.lacking = true
		return nil
	}
	d := &Dict{Class: p.class, Con: head.name}
	var missing []pred
	for _, n := range needs {
		key := m.key(n.Class, arguments[n.Arg])
		part := m.known[key]
		if part == nil {
			missing = append(missing, key)
			continue
		}
		d.Parts = append(d.Parts, part)
		if d.Params == nil || part.Params != nil && part.Params.level > d.Params.level {
			d.Params = part.Params
		}
	}
	if len(missing) == 0 {
		m.known[p] = d
	}
	return missing
}

// explain tells the dictionaries that are taken in a group at the top, or in a
// DFun of a DInst, for which there is no error.
func (s *solver) explain(inst *Params) {
	m := newMaker(s)
	for at, place := range s.given {
		m.add(at.class, newCon(at.con), &Dict{Params: inst, At: place})
	}
	for _, g := range s.closed {
		params := &Params{Count: len(g.kept), level: g.level}
		for i, p := range g.kept {
			d := &Dict{Params: params, At: i}
			g.dicts = append(g.dicts, d)
			m.add(p.class, p.of, d)
		}
		for _, d := range g.functions {
			if params.Count > 0 {
				s.program.Params[d] = params
			}
		}
	}
	for _, u := range s.uses {
		dicts := m.dicts(u.preds...)
		if u.inside {
			dicts = u.of.dicts
		}
		switch {
		case len(dicts) == 0:
		case u.binds:
			s.program.Binds[u.at] = dicts
		default:
			s.program.Uses[u.at] = dicts
		}
	}
}
