package typing

import "teasel/api"

// copier copies terms, with others for the variables that are of some level or
// of a further one. What has none of these is not copied.
type copier struct {
	from  int                 // that level
	to    int                 // the level of all that is made
	made  map[*term]*term     // what was made for each variable
	other func(v *term) *term // makes it
	nodes int                 // how many nodes were made beside
}

// hole is a place at which the copy of a term is missing.
type hole struct {
	of   *term
	into **term
}

func (c *copier) copy(t *term) *term {
	return c.copyBeside(map[*term]*term{}, t)
}

// copyBeside copies a term beside others, whose copies are known. It makes one
// copy of what occurs several times, as terms may share their parts. What is left
// of it is kept on a stack: the given types may be too deep for calls within calls.
func (c *copier) copyBeside(known map[*term]*term, t *term) *term {
	var root *term
	left := []hole{{of: t, into: &root}}
	for len(left) > 0 {
		last := left[len(left)-1]
		left = left[:len(left)-1]
		of := last.of.find()
		switch {
		case of.level < c.from:
			*last.into = of
		case of.kind == api.TVar:
			*last.into = c.variable(of)
		case known[of] != nil:
			*last.into = known[of]
		default:
			n := &term{kind: api.TApp, level: c.to}
			known[of] = n
			c.nodes++
			*last.into = n
			left = append(left, hole{of: of.parts[1], into: &n.parts[1]}, hole{of: of.parts[0], into: &n.parts[0]})
		}
	}
	return root
}

func (c *copier) variable(v *term) *term {
	if c.made[v] == nil {
		c.made[v] = c.other(v)
	}
	return c.made[v]
}
