package occur

import (
	"iter"
	"math"
	"slices"

	"teasel/api"
)

// Bounds of what is looked at.
const (
	mostLevels = 1 << 17 // so that calls within calls will do
	mostSteps  = 1 << 20 // ahead of the first note of what an expression comes to
)

// count is how often a name occurs free, and whether once inside a Lam.
type count struct {
	times  int
	inside bool
}

// add is for one more part. The number stays at the greatest one, beyond which
// expressions may be that share memory.
func (c *count) add(part count) {
	if c.times > math.MaxInt-part.times {
		c.times = math.MaxInt
	} else {
		c.times += part.times
	}
	c.inside = c.inside || part.inside
}

// counter counts a name. Most expressions share no memory, and notes would cost
// more than the counting; so it makes them only after some steps, from when on it
// looks at nothing again.
type counter struct {
	name     string
	patience int // how many steps there are left ahead of the first note
	known    map[*api.Expr]count
	tooDeep  bool
}

// count is what an expression on some level comes to.
func (c *counter) count(e *api.Expr, level int) count {
	if x, found := c.known[e]; found {
		return x
	}
	if level > mostLevels {
		c.tooDeep = true
		return count{}
	}
	c.patience--
	var all count
	if e.Kind == api.Var && e.Name == c.name {
		all.times = 1
	}
	for part := range c.parts(e) {
		all.add(c.count(part, level+1))
		if c.tooDeep {
			return count{}
		}
	}
	all.inside = all.inside || e.Kind == api.Lam && all.times > 0
	if c.patience < 0 {
		c.known[e] = all
	}
	return all
}

// parts is the children of an expression, but for those in which it binds the
// name.
func (c *counter) parts(e *api.Expr) iter.Seq[*api.Expr] {
	return func(yield func(*api.Expr) bool) {
		if !c.isAmong(e.Names) && !c.isBound(e.Binds) {
			for i := range e.Subs {
				if !yield(&e.Subs[i]) {
					return
				}
			}
			for i := range e.Binds {
				if !yield(&e.Binds[i].Expr) {
					return
				}
			}
		}
		if e.Kind == api.Case && e.Name == c.name {
			return
		}
		for i := range e.Alts {
			if !c.isAmong(e.Alts[i].Names) && !yield(&e.Alts[i].Body) {
				return
			}
		}
	}
}

func (c *counter) isAmong(names []string) bool {
	c.patience -= len(names)
	return slices.Contains(names, c.name)
}

func (c *counter) isBound(binds []api.Bind) bool {
	c.patience -= len(binds)
	return slices.ContainsFunc(binds, func(b api.Bind) bool { return b.Name == c.name })
}
