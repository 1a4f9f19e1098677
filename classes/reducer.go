package classes

import (
	"cmp"
	"slices"
	"strings"

	"teasel/api"
	"teasel/unify"
)

// slot is what an instance is asked for by: a class, and a constructor with so
// many arguments.
type slot struct {
	class, con string
	args       int
}

// pred is a pred whose type is a term, so that those that are the same can be
// found.
type pred struct {
	class string
	of    *term
}

// reducer reduces preds, each only once: the preds that some require may be the
// same as those that others do, at each of many levels.
type reducer struct {
	insts   map[slot][]api.Need
	terms   *terms
	reached map[pred]struct{}
	left    []pred // those reached whose head is a TVar, in order
}

// mostNodes is how many nodes, of 48 bytes each, the types of an answer may
// have. Greater ones than that are no answer.
const mostNodes = (1<<31 - 1) / 48

func newReducer(insts []api.Inst) *reducer {
	r := &reducer{insts: map[slot][]api.Need{}, terms: newTerms(), reached: map[pred]struct{}{}}
	for _, i := range insts {
		at := slot{class: i.Class, con: i.Con, args: i.Args}
		if _, found := r.insts[at]; !found {
			r.insts[at] = distinct(i.Needs)
		}
	}
	return r
}

// reach reduces a pred, and then what it requires. As types become smaller by
// that, calls within calls are not deep; and a pred that has been reached
// before is wholly reduced.
func (r *reducer) reach(class string, of *term) api.Errno {
	p := pred{class: class, of: of}
	if _, found := r.reached[p]; found {
		return api.OK
	}
	r.reached[p] = struct{}{}
	head, arguments := of.spine()
	if head.kind == api.TVar {
		r.left = append(r.left, p)
		return api.OK
	}
	needs, found := r.insts[slot{class: class, con: head.name, args: len(arguments)}]
	if !found {
		return api.ErrInstance
	}
	for _, n := range needs {
		if errno := r.reach(n.Class, arguments[n.Arg]); errno != api.OK {
			return errno
		}
	}
	return api.OK
}

// nodes is how many nodes the types of the preds that are left have.
func (r *reducer) nodes() int {
	sum := 0
	for _, p := range r.left {
		sum += p.of.nodes
	}
	return sum
}

// answer is the preds that are left, in order.
func (r *reducer) answer() ([]api.Pred, api.Errno) {
	type entry struct {
		pred api.Pred
		text string
	}
	if r.nodes() > mostNodes {
		return nil, api.ErrBig
	}
	var entries []entry
	for _, p := range r.left {
		t := p.of.build()
		entries = append(entries, entry{pred: api.Pred{Class: p.class, Type: t}, text: unify.Text(t)})
	}
	slices.SortStableFunc(entries, func(a, b entry) int {
		return cmp.Or(strings.Compare(a.pred.Class, b.pred.Class), strings.Compare(a.text, b.text))
	})
	var all []api.Pred
	for _, e := range entries {
		all = append(all, e.pred)
	}
	return all, api.OK
}
