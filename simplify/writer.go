package simplify

import "teasel/api"

// writer writes the expressions of a simplified program, unless they are too many or
// too deep.
type writer struct {
	room int // how many more there may be; below 0 nothing written is of use
}

func (w *writer) expr(e *node, level int) api.Expr {
	e = settled(e)
	w.take(1)
	if w.room < 0 || level > api.MaxDepth {
		w.room = -1
		return api.Expr{}
	}
	made := api.Expr{Kind: e.kind, Name: e.name, N: e.n, Op: e.op}
	switch e.kind {
	case handOver:
		return w.handOver(e, level)
	case api.Var:
		made.Name = e.of.name
	case api.Lam:
		made.Names = namesOf(reversed(e.names))
		made.Subs = w.exprs(e.kids, level+1)
	case api.Let:
		for i, value := range w.exprs(e.kids[:len(e.names)], level+1) {
			made.Binds = append(made.Binds, api.Bind{Name: e.names[i].name, Expr: value})
		}
		made.Subs = w.exprs(e.kids[len(e.names):], level+1)
	case api.Case:
		made.Subs = w.exprs(e.kids[:1], level+1)
		for i, body := range w.exprs(e.kids[1:], level+1) {
			made.Alts = append(made.Alts, e.heads[i].alternative(namesOf(e.heads[i].names), body))
		}
	default:
		made.Subs = w.exprs(e.kids, level+1)
	}
	return made
}

// take is for so many expressions more.
func (w *writer) take(count int) { w.room = max(w.room-count, -1) }

func (w *writer) exprs(nodes []*node, level int) []api.Expr {
	var made []api.Expr
	for _, e := range nodes {
		made = append(made, w.expr(e, level))
	}
	return made
}

// handOver is a Case that hands its value over, whole.
func (w *writer) handOver(e *node, level int) api.Expr {
	w.take(e.joins.size)
	if w.room < 0 || level+2 > api.MaxDepth {
		w.room = -1
		return api.Expr{}
	}
	next := e.n
	fresh := func() string {
		next++
		return freshName(next - 1)
	}
	made := api.Expr{Kind: api.Case, Name: fresh(), Subs: w.exprs(e.kids, level+1)}
	for i, h := range e.joins.heads {
		call := api.Expr{Kind: api.App, Subs: []api.Expr{variable(e.joins.names[i].name)}}
		var names []string
		for range h.names {
			names = append(names, fresh())
			call.Subs = append(call.Subs, variable(names[len(names)-1]))
		}
		call.Subs = append(call.Subs, variable(made.Name))
		made.Alts = append(made.Alts, h.alternative(names, call))
	}
	return made
}

func (h head) alternative(names []string, body api.Expr) api.Alt {
	return api.Alt{Kind: h.kind, Name: h.name, N: h.n, Names: names, Body: body}
}

func namesOf(binders []*binder) []string {
	var names []string
	for _, b := range binders {
		names = append(names, b.name)
	}
	return names
}

func variable(name string) api.Expr { return api.Expr{Kind: api.Var, Name: name} }
