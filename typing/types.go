package typing

import "teasel/api"

// typeMaker makes the types that names take, one for those that are the same.
type typeMaker struct {
	*solver
	types *uniques
	known map[*term]*Arg
}

func newTypeMaker(s *solver, inst *Params) *typeMaker {
	m := &typeMaker{solver: s, types: newUniques(), known: map[*term]*Arg{}}
	for i, con := range s.arbitrary {
		m.known[m.types.only(con)] = &Arg{Kind: Taken, Params: inst, At: i}
	}
	return m
}

func (m *typeMaker) taken(g *group) []*Arg {
	all := takenBy(g, len(g.variables))
	for i, v := range g.variables {
		m.known[m.types.only(v)] = all[i]
	}
	return all
}

func (m *typeMaker) args(u *use) []*Arg {
	var all []*Arg
	_, variables := u.known.kept()
	for _, v := range variables {
		all = append(all, m.arg(m.types.only(u.copier.made[v])))
	}
	return all
}

// arg makes a type, and first those that it is made of. What is left of them is
// kept on a stack: types may be too deep for calls within calls.
func (m *typeMaker) arg(t *term) *Arg {
	left := []*term{t}
	for len(left) > 0 {
		last := left[len(left)-1]
		if m.known[last] == nil {
			if missing := m.try(last); missing != nil {
				left = append(left, missing)
				continue
			}
		}
		left = left[:len(left)-1]
	}
	return m.known[t]
}

// try makes a type, or answers a part that has to be made first.
func (m *typeMaker) try(t *term) *term {
	if t.kind != api.TApp {
		m.known[t] = m.leaf(t)
		return nil
	}
	all := &Arg{Kind: Applied}
	for _, part := range t.parts {
		part = m.types.only(part)
		made := m.known[part]
		switch {
		case made == nil:
			return part
		case made.Kind == Unknown && len(all.Parts) == 0:
			m.known[t] = made
			return nil
		}
		all.add(made)
	}
	m.known[t] = all
	return nil
}

// leaf makes the type of a constructor, or of a variable that no pred tells.
func (m *typeMaker) leaf(t *term) *Arg {
	if _, found := m.program.heads[t.name]; t.kind == api.TCon && found {
		return &Arg{Kind: Constructor, Con: t.name}
	}
	return &Arg{Kind: Unknown}
}
