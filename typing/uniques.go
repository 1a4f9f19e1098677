package typing

import "teasel/api"

// shape is what makes a term what it is, as long as no variable turns out to be
// something else: a variable itself, a constructor's name, or two parts of which
// there is only one each.
type shape struct {
	variable           *term
	name               string
	function, argument *term
}

// uniques is terms no two of which are the same type.
type uniques struct {
	all   map[shape]*term
	known map[*term]*term // those that have been looked for
}

func newUniques() *uniques {
	return &uniques{all: map[shape]*term{}, known: map[*term]*term{}}
}

// only is the one term that is the same type as t. What is left of it is kept on
// a stack: terms may be too deep for calls within calls.
func (u *uniques) only(t *term) *term {
	left := []*term{t}
	for len(left) > 0 {
		last := left[len(left)-1].find()
		if u.known[last] == nil && last.kind == api.TApp {
			f, a := last.parts[0].find(), last.parts[1].find()
			if u.known[f] == nil || u.known[a] == nil {
				left = append(left, a, f)
				continue
			}
		}
		left = left[:len(left)-1]
		u.add(last)
	}
	return u.known[t.find()]
}

// add knows the parts of t.
func (u *uniques) add(t *term) {
	if u.known[t] != nil {
		return
	}
	var s shape
	switch t.kind {
	case api.TVar:
		s.variable = t
	case api.TCon:
		s.name = t.name
	case api.TApp:
		s.function, s.argument = u.known[t.parts[0].find()], u.known[t.parts[1].find()]
	}
	if u.all[s] == nil {
		u.all[s] = t
	}
	u.known[t] = u.all[s]
}
