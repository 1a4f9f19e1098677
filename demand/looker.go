package demand

import (
	"math"

	"teasel/api"
)

// Bounds of what is looked at.
const (
	mostNodes = (1<<31 - 1) / 136 // of what shares no memory, as each takes 136 bytes
	mostSteps = 1 << 24           // in what is greater
)

// looker looks for first demands.
type looker struct {
	orders map[string]api.Order
	known  map[*api.Expr][]string // what the alternatives of a Case have in common, if that is noted
	steps  int                    // how many more may be taken; below 0 nothing found is of use
}

func newLooker(orders ...api.Order) *looker {
	l := &looker{orders: map[string]api.Order{}, steps: math.MaxInt}
	for _, order := range orders {
		if _, found := l.orders[order.Name]; !found {
			order.Numbers = distinct(order.Numbers)
			l.orders[order.Name] = order
		}
	}
	return l
}

// distinct is numbers without repetitions: an argument demands nothing more when it
// is looked at again.
func distinct(numbers []int) []int {
	seen := map[int]struct{}{}
	var once []int
	for _, n := range numbers {
		if _, found := seen[n]; !found {
			seen[n] = struct{}{}
			once = append(once, n)
		}
	}
	return once
}

// note is for an expression in which the same memory stands in many places: it is
// not looked at again in each of them.
func (l *looker) note() {
	l.known = map[*api.Expr][]string{}
	l.steps = mostSteps
}

// order is that of the function of an App, if there are enough arguments for it.
func (l *looker) order(app *api.Expr) (api.Order, bool) {
	f := &app.Subs[0]
	order, found := l.orders[f.Name]
	return order, found && f.Kind == api.Var && len(app.Subs)-1 >= order.Arity
}

func (l *looker) first(e *api.Expr) []string {
	w := l.newWay()
	w.follow(e)
	return w.names
}

// begins says whether a name is the first demand of all.
func (l *looker) begins(e *api.Expr, name string) bool {
	w := l.newWay()
	w.most = 1
	w.follow(e)
	return len(w.names) == 1 && w.names[0] == name
}

// listed is the names of a scrutinee that is simple, as passed.
func (l *looker) listed(e *api.Expr) map[string]mark {
	w := l.newWay()
	w.follow(&e.Subs[0])
	return w.marks
}

// common is the names that all alternatives of a Case demand, behind its scrutinee.
func (l *looker) common(e *api.Expr) []string {
	names, found := l.known[e]
	if found || len(e.Alts) == 0 {
		return names
	}
	listed := l.listed(e)
	for i := range e.Alts {
		w := l.newWay()
		w.outer, w.most = listed, len(names)
		w.enter(e, &e.Alts[i], listed)
		if i == 0 {
			names = w.names
		}
		names = names[:prefix(names, w.names)]
		if len(names) == 0 {
			break
		}
	}
	if l.known != nil {
		l.known[e] = names
	}
	return names
}

// prefix is how many names two lists begin with together.
func prefix(a, b []string) int {
	n := 0
	for n < min(len(a), len(b)) && a[n] == b[n] {
		n++
	}
	return n
}
