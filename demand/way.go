package demand

import "teasel/api"

// mark is what a name is on a way.
type mark int

const (
	passed mark = 1 + iota // it adds nothing when it comes again
	bound                  // nothing is certain from there on
)

// way is how the evaluation of an expression certainly goes on: what is simple, one
// thing behind another, and at the end something that is not. As nothing comes
// behind that, a Let's or an alternative's names stay bound up to the end of the way.
type way struct {
	*looker
	names []string
	most  int                    // how many names are wanted; 0 for all
	marks map[string]mark        // by what is nearest around
	outer map[string]mark        // by what is around all of the way
	been  map[*api.Expr]struct{} // what is simple and would add nothing here, if that is noted
	over  bool
}

func (l *looker) newWay() *way {
	w := &way{looker: l, marks: map[string]mark{}}
	if l.known != nil {
		w.been = map[*api.Expr]struct{}{}
	}
	return w
}

// follow says whether the way goes on behind an expression.
func (w *way) follow(e *api.Expr) bool {
	w.steps--
	if w.steps < 0 {
		return false
	}
	switch e.Kind {
	case api.Var:
		w.demand(e.Name)
		return !w.over
	case api.Lit:
		return true
	case api.Prim:
		return w.prim(e)
	case api.App:
		w.app(e)
	case api.Let:
		w.let(e)
	case api.Case:
		w.caseOf(e)
	}
	return false
}

func (w *way) demand(name string) {
	switch w.markOf(name) {
	case passed:
	case bound:
		w.over = true
	default:
		w.marks[name] = passed
		w.names = append(w.names, name)
		w.over = len(w.names) == w.most
	}
}

func (w *way) markOf(name string) mark {
	if m, found := w.marks[name]; found {
		return m
	}
	return w.outer[name]
}

func (w *way) bind(name string) {
	w.marks[name] = bound
	clear(w.been) // as the name may be in there
}

func (w *way) prim(e *api.Expr) bool {
	if _, found := w.been[e]; found {
		return true
	}
	for i := range e.Subs {
		if !w.follow(&e.Subs[i]) {
			return false
		}
	}
	switch e.Op {
	case api.Add, api.Minus, api.Mul, api.Eq, api.Lt, api.Le:
	default:
		return false
	}
	if w.been != nil {
		w.been[e] = struct{}{}
	}
	return true
}

func (w *way) app(e *api.Expr) {
	if len(e.Subs) == 0 {
		return
	}
	order, found := w.order(e)
	if !found {
		w.follow(&e.Subs[0])
		return
	}
	for _, n := range order.Numbers {
		if n < 0 || n >= len(e.Subs)-1 || !w.follow(&e.Subs[1+n]) {
			return
		}
	}
}

func (w *way) let(e *api.Expr) {
	if len(e.Subs) == 0 {
		return
	}
	for i := range e.Binds {
		w.bind(e.Binds[i].Name)
	}
	w.follow(&e.Subs[0])
}

func (w *way) caseOf(e *api.Expr) {
	if len(e.Subs) == 0 || !w.follow(&e.Subs[0]) {
		return
	}
	if len(e.Alts) == 1 {
		// on the same way, as there may be very many, one in another
		w.enter(e, &e.Alts[0], w.listed(e))
		return
	}
	names := w.common(e)
	w.steps -= len(names)
	for _, name := range names {
		if w.demand(name); w.over {
			return
		}
	}
}

// enter goes on in an alternative of a Case whose scrutinee has listed names.
func (w *way) enter(e *api.Expr, alt *api.Alt, listed map[string]mark) {
	for _, name := range alt.Names {
		if listed[name] != passed {
			w.bind(name)
		}
	}
	w.marks[e.Name] = passed
	w.follow(&alt.Body)
}
