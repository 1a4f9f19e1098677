package simplify

import (
	"slices"

	"teasel/api"
)

// handOver is the Kind of a Case, in a body of another one, the alternatives of
// which do nothing but call those that were outside. Its only kid is its scrutinee;
// n is the number of its first fresh name. All the rest is written at the end, if at
// all: there are as many of them as bodies inside, with as many alternatives as
// there were outside, which may be far too many.
const handOver = api.Prim + 1

// joins is the alternatives of a Case that were outside, and what they are called
// by.
type joins struct {
	heads []head
	names []*binder
	fresh int // how many fresh names a handOver takes
	size  int // of all alternatives of a handOver
}

// isChoice says whether a Case has several alternatives, of which all are known
// for what they are.
func (e *node) isChoice() bool {
	return e.kind == api.Case && len(e.heads) > 1 && !slices.ContainsFunc(e.kids[1:], func(body *node) bool {
		body = settled(body)
		return body.kind != api.Lit && body.kind != api.Con && !body.isRaise()
	})
}

// handedOver is a Case of a choice.
func (s *simplifier) handedOver(e *node) *node {
	j := &joins{heads: e.heads, fresh: 1}
	var lams []*node
	for i, h := range e.heads {
		j.names = append(j.names, &binder{name: s.fresh()})
		h.as.name = s.fresh()
		lam := &node{kind: api.Lam, names: append([]*binder{h.as}, reversed(h.names)...)}
		lams = append(lams, lam.take(e.kids[1+i]))
		j.fresh += len(h.names)
		j.size += 3 + len(h.names) // the App, its function, the names and the value
	}
	choice := e.kids[0]
	for i, body := range choice.kids[1:] {
		made := &node{kind: handOver, n: s.next, joins: j}
		choice.put(1+i, made.take(body))
		s.next += j.fresh
	}
	return nested(j.names, lams, choice)
}
