package demand

import (
	"slices"

	"teasel/api"
)

const mostRounds = 20

// function is a Bind of a Lam.
type function struct {
	name string
	at   map[string]int // the indices of its Names
	body *api.Expr
}

func functionsOf(p api.Program) []function {
	var all []function
	for i := range p.Binds {
		e := &p.Binds[i].Expr
		if e.Kind != api.Lam {
			continue
		}
		f := function{name: p.Binds[i].Name, at: map[string]int{}, body: &e.Subs[0]}
		for n, name := range e.Names {
			f.at[name] = n
		}
		all = append(all, f)
	}
	return all
}

// order is what a function evaluates first, by what is known about all of them.
func (f function) order(l *looker) api.Order {
	order := api.Order{Name: f.name, Arity: len(f.at)}
	for _, name := range l.first(f.body) {
		n, found := f.at[name]
		if !found {
			break
		}
		order.Numbers = append(order.Numbers, n)
	}
	return order
}

// ordersOf is the orders of a program that Lint accepts.
func ordersOf(p api.Program) []api.Order {
	functions := functionsOf(p)
	var orders []api.Order
	for _, f := range functions {
		orders = append(orders, api.Order{Name: f.name, Arity: len(f.at)})
	}
	for range mostRounds {
		l := newLooker(orders...)
		var next []api.Order
		for _, f := range functions {
			next = append(next, f.order(l))
		}
		if slices.EqualFunc(orders, next, sameNumbers) {
			break
		}
		orders = next
	}
	return orders
}

func sameNumbers(a, b api.Order) bool { return slices.Equal(a.Numbers, b.Numbers) }
