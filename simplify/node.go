package simplify

import (
	"slices"

	"teasel/api"
)

// node is an expression on its way through a pass. A Var tells what binds it, and
// each expression what it stands in, so that nothing has to be looked for in what
// may be great.
type node struct {
	kind   int // one of api's, or handOver
	op     int
	n      int
	name   string    // of a Con's constructor; of a Case
	of     *binder   // of a Var
	number int       // of a Var: no other one has it
	names  []*binder // of a Let, those of its binds; of a Lam, the last one first
	kids   []*node   // the Subs; but a Let's body stands behind its binds, and a Case's bodies behind its scrutinee
	heads  []head    // of a Case, one for each body
	joins  *joins    // of a handOver
	around *node     // what it is a kid of
}

// head is an alternative without its body.
type head struct {
	kind  int
	name  string
	n     int
	names []*binder
	as    *binder // the Case's Name in this body
}

// take makes nodes the last kids of this one.
func (e *node) take(kids ...*node) *node {
	for _, kid := range kids {
		kid.around = e
	}
	e.kids = append(e.kids, kids...)
	return e
}

// put is for a kid in the place of another one.
func (e *node) put(i int, kid *node) {
	kid.around = e
	e.kids[i] = kid
}

func (e *node) isAtom() bool { return e.kind == api.Var || e.kind == api.Lit }

func (e *node) isRaise() bool { return e.kind == api.Prim && e.op == api.Raise }

// isInLam says whether this is in a Lam that is all of a body, or stands in it.
func (e *node) isInLam(body *node) bool {
	for e.kind != api.Lam && e != body {
		e = e.around
	}
	return e.kind == api.Lam
}

func literal(n int) *node { return &node{kind: api.Lit, n: n} }

func let(names []*binder, exprs []*node, body *node) *node {
	return (&node{kind: api.Let, names: names}).take(exprs...).take(body)
}

func reversed(names []*binder) []*binder {
	names = slices.Clone(names)
	slices.Reverse(names)
	return names
}

// nested is Lets of one bind each around a body, the first one outermost.
func nested(names []*binder, exprs []*node, body *node) *node {
	for i, name := range slices.Backward(names) {
		body = let([]*binder{name}, exprs[i:i+1], body)
	}
	return body
}

// inward puts an expression, whose first kid comes from a Let or from a Case with
// one alternative, in there, around its body.
func inward(e *node) *node {
	out := e.kids[0]
	if out.kind != api.Let && (out.kind != api.Case || len(out.heads) != 1) {
		return e
	}
	body := len(out.kids) - 1
	e.put(0, out.kids[body])
	out.put(body, e)
	return out
}
