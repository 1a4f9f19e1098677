package core

import (
	"slices"

	"teasel/api"
)

// comparer compares expressions. After some steps it takes those that it has
// compared for one, and does not compare them again: if it ever finds that two
// of them differ, the answer is no anyway.
type comparer struct {
	steps int
	class map[*api.Expr]*api.Expr // by an expression, one that it is taken for
}

func (c *comparer) same(a, b *api.Expr, level int) bool {
	c.steps++
	switch {
	case a == b:
		return true
	case level > mostLevels || !alike(a, b):
		return false
	case children(a) > 0 && c.steps > mostSteps && !c.join(a, b):
		return true
	}
	for i := range children(a) {
		if !c.same(child(a, i), child(b, i), level+1) {
			return false
		}
	}
	return true
}

// join is false if the two are taken for one already.
func (c *comparer) join(a, b *api.Expr) bool {
	x, y := c.find(a), c.find(b)
	if x != y {
		c.class[x] = y
	}
	return x != y
}

// find is the one that stands for all that are taken for e. It shortens the way
// for the next time.
func (c *comparer) find(e *api.Expr) *api.Expr {
	for c.class[e] != nil {
		up := c.class[e]
		if further := c.class[up]; further != nil {
			c.class[e] = further
		}
		e = up
	}
	return e
}

// alike says whether a and b are equal but for their children, of which they
// have as many.
func alike(a, b *api.Expr) bool {
	return a.Kind == b.Kind && a.Name == b.Name && a.N == b.N && a.Op == b.Op &&
		slices.Equal(a.Names, b.Names) && len(a.Subs) == len(b.Subs) &&
		slices.EqualFunc(a.Binds, b.Binds, alikeBinds) && slices.EqualFunc(a.Alts, b.Alts, alikeAlts)
}

func alikeBinds(a, b api.Bind) bool { return a.Name == b.Name }

func alikeAlts(a, b api.Alt) bool {
	return a.Kind == b.Kind && a.Name == b.Name && a.N == b.N && slices.Equal(a.Names, b.Names)
}
