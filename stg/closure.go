package stg

import (
	"maps"
	"math/bits"
	"slices"

	"teasel/api"
)

// closure is a function or a thunk.
type closure struct {
	made   *api.SBind
	around *closure // the one in whose Body it is; none at the top
	free   []word   // which names are free in it
}

// word is which of 64 names in a row there are, a bit for each.
type word struct {
	number int
	bits   uint64
}

// group is binds that stand together, and which closures they are: none for a cell.
type group struct {
	binds    []api.SBind
	closures []*closure
}

func (g *group) add(b api.SBind, c *closure) {
	g.binds, g.closures = append(g.binds, b), append(g.closures, c)
}

// settle is the binds of a group that is whole: from now on they stay where they
// are.
func (g *group) settle() []api.SBind {
	for i, c := range g.closures {
		if c != nil {
			c.made = &g.binds[i]
		}
	}
	return g.binds
}

// around is a group that is whole, around an expression.
func (g *group) around(body api.Stg) api.Stg {
	return api.Stg{Kind: api.SRec, Binds: g.settle(), Subs: []api.Stg{body}}
}

// place is where a name is bound and used.
type place struct {
	within   *closure   // where it is bound
	uses     []*closure // where it is used, each time
	straight bool       // whether it occurs Straight in all that is in its scope
}

// enter is for names that are bound.
func (t *translator) enter(names ...string) {
	for _, name := range names {
		t.places[name] = &place{within: t.within}
	}
}

// use is for a Var, which is evaluated at once or an argument. What is not on a
// straight way from a Let is an argument, or in another closure than the Let.
func (t *translator) use(name string, atOnce bool) {
	if p, found := t.places[name]; found {
		p.uses = append(p.uses, t.within)
		p.straight = len(p.uses) == 1 && atOnce && p.within == t.within
	}
}

// tellFree tells all closures their free names. There may be very many names in many
// closures, so no list is made but in one go.
func (t *translator) tellFree() {
	names := slices.Sorted(maps.Keys(t.places))
	for i, name := range names {
		p := t.places[name]
		for _, c := range p.uses {
			for c != p.within && c.mark(i) {
				c = c.around
			}
		}
	}
	for _, c := range t.closures {
		c.tell(names)
	}
}

// mark is for a name that is free; the names come one after the other. It is false
// if this is known already, as it is then of the closures around this one.
func (c *closure) mark(name int) bool {
	number, bit := name/64, uint64(1)<<(name%64)
	last := len(c.free) - 1
	if last < 0 || c.free[last].number != number {
		c.free = append(c.free, word{number, bit})
		return true
	}
	isNew := c.free[last].bits&bit == 0
	c.free[last].bits |= bit
	return isNew
}

func (c *closure) tell(names []string) {
	count := 0
	for _, w := range c.free {
		count += bits.OnesCount64(w.bits)
	}
	if count == 0 {
		return
	}
	free := make([]string, 0, count)
	for _, w := range c.free {
		for left := w.bits; left != 0; left &= left - 1 {
			free = append(free, names[64*w.number+bits.TrailingZeros64(left)])
		}
	}
	c.made.Free = free
}
