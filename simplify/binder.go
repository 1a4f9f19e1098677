package simplify

import (
	"slices"

	"teasel/api"
)

// binder is a name, where it is bound.
type binder struct {
	name    string
	becomes *node  // what stands in its place now; it is no kid of anything
	times   int    // how many Vars it has
	sum     int    // of their numbers: that of its Var, if it has one
	home    *scope // the Let whose bind it is, if it is one
	uses    []use  // how many Vars it has in parts of that Let, in the order of these
}

// scope is a Let, with the index of the part that is being simplified, in which all
// that changes is: a bind's, or their count for the body.
type scope struct {
	part int
}

type use struct {
	part, times int
}

// count is for so many more Vars, or fewer, with that sum of their numbers.
func (b *binder) count(times, sum int) {
	b.times += times
	b.sum += sum
	if b.home == nil {
		return
	}
	last := len(b.uses) - 1
	if last < 0 || b.uses[last].part < b.home.part {
		b.uses = append(b.uses, use{part: b.home.part})
		last++
	}
	b.uses[last].times += times
}

// replace puts an expression in the place of all Vars of a binder. It must be no
// kid of anything and, if it is a Var, not be counted.
func (b *binder) replace(by *node) {
	b.becomes = by
	if by.kind == api.Var {
		by.of.count(b.times, b.sum)
	}
}

// settled is what a node is now: a Var may have been replaced. Vars of one binder
// stay apart, as they stand in different places.
func settled(e *node) *node {
	if e.kind != api.Var || e.of.becomes == nil {
		return e
	}
	by := settled(e.of.becomes)
	e.of.becomes = by // a shorter way for the next time
	switch by.kind {
	case api.Var:
		e.of = by.of
		return e
	case api.Lit:
		e.kind, e.n, e.of = api.Lit, by.n, nil
		return e
	}
	return by
}

// forget is for nodes that stand nowhere any more.
func forget(nodes ...*node) {
	left := slices.Clone(nodes) // which may be kids
	for len(left) > 0 {
		e := settled(left[len(left)-1])
		left = append(left[:len(left)-1], e.kids...)
		if e.kind == api.Var {
			e.of.count(-1, -e.number)
		}
	}
}
