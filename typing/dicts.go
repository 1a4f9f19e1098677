package typing

import "teasel/api"

// maker makes the dictionaries for preds, one for those that are the same.
type maker struct {
	*solver
	types   *uniques
	known   map[pred]*Arg
	lacking bool // whether there is none for some pred
}

func newMaker(s *solver, inst *Params) *maker {
	m := &maker{solver: s, types: newUniques(), known: map[pred]*Arg{}}
	for at, place := range s.given {
		m.add(at.class, newCon(at.con), &Arg{Kind: Taken, Params: inst, At: place})
	}
	return m
}

func (m *maker) key(class string, of *term) pred {
	return pred{class: class, of: m.types.only(of)}
}

// add knows a dictionary. Preds of one group may have come to be the same when
// Int was put for a variable: then the first one does for all.
func (m *maker) add(class string, of *term, d *Arg) {
	if key := m.key(class, of); m.known[key] == nil {
		m.known[key] = d
	}
}

func (m *maker) taken(g *group) []*Arg {
	all := takenBy(g, len(g.kept))
	for i, p := range g.kept {
		m.add(p.class, p.of, all[i])
	}
	return all
}

func (m *maker) args(u *use) []*Arg {
	var all []*Arg
	for _, p := range u.preds {
		all = append(all, m.dict(m.key(p.class, p.of)))
	}
	return all
}

// dict makes the dictionary for a pred, and first those that it is made of. What
// is left of them is kept on a stack: types may be too deep for calls within
// calls.
func (m *maker) dict(p pred) *Arg {
	left := []pred{p}
	for len(left) > 0 && !m.lacking {
		last := left[len(left)-1]
		if m.known[last] == nil {
			if missing := m.try(last); len(missing) > 0 {
				left = append(left, missing...)
				continue
			}
		}
		left = left[:len(left)-1]
	}
	return m.known[p]
}

// try makes the dictionary for a pred, or answers the preds whose dictionaries
// have to be made first.
func (m *maker) try(p pred) []pred {
	head, arguments := p.of.head(), p.of.arguments()
	needs, found := m.program.insts[slot{class: p.class, con: head.name, arguments: len(arguments)}]
	if head.kind != api.TCon || !found {
		m.lacking = true
		return nil
	}
	d := &Arg{Kind: Dictionary, Class: p.class, Con: head.name}
	var missing []pred
	for _, n := range needs {
		key := m.key(n.Class, arguments[n.Arg])
		if part := m.known[key]; part != nil {
			d.add(part)
		} else {
			missing = append(missing, key)
		}
	}
	if len(missing) == 0 {
		m.known[p] = d
	}
	return missing
}
