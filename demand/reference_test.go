package demand_test

import (
	"slices"
	"strconv"

	"teasel/api"
	"teasel/core"
)

// A second way, word by word as the chapter says it.

func refSimple(e api.Expr) bool {
	if e.Kind == api.Prim && slices.Contains([]int{api.Add, api.Minus, api.Mul, api.Eq, api.Lt, api.Le}, e.Op) {
		return refSimple(e.Subs[0]) && refSimple(e.Subs[1])
	}
	return e.Kind == api.Lit || e.Kind == api.Var
}

// once is a list with each name at its first occurrence.
func once(names []string) []string {
	var all []string
	for _, name := range names {
		if !slices.Contains(all, name) {
			all = append(all, name)
		}
	}
	return all
}

// upTo is a list up to, but not including, the first of some names.
func upTo(names, ends []string) []string {
	for i, name := range names {
		if slices.Contains(ends, name) {
			return names[:i:i]
		}
	}
	return names
}

func refFirst(e api.Expr, orders []api.Order) []string {
	switch e.Kind {
	case api.Var:
		return []string{e.Name}
	case api.Prim:
		switch len(e.Subs) {
		case 1:
			return refFirst(e.Subs[0], orders)
		case 2:
			names := refFirst(e.Subs[0], orders)
			if refSimple(e.Subs[0]) {
				names = append(names, refFirst(e.Subs[1], orders)...)
			}
			return once(names)
		}
	case api.App:
		return refApp(e, orders)
	case api.Let:
		var bound []string
		for _, b := range e.Binds {
			bound = append(bound, b.Name)
		}
		return upTo(refFirst(e.Subs[0], orders), bound)
	case api.Case:
		return refCase(e, orders)
	}
	return nil
}

func refOrder(app api.Expr, orders []api.Order) (api.Order, bool) {
	at := slices.IndexFunc(orders, func(o api.Order) bool { return o.Name == app.Subs[0].Name })
	if app.Subs[0].Kind != api.Var || at < 0 || len(app.Subs)-1 < orders[at].Arity {
		return api.Order{}, false
	}
	return orders[at], true
}

func refApp(e api.Expr, orders []api.Order) []string {
	order, found := refOrder(e, orders)
	if !found {
		return refFirst(e.Subs[0], orders)
	}
	var names []string
	for _, n := range order.Numbers {
		if n < 0 || n >= len(e.Subs)-1 {
			break
		}
		names = append(names, refFirst(e.Subs[1+n], orders)...)
		if !refSimple(e.Subs[1+n]) {
			break
		}
	}
	return once(names)
}

func refCase(e api.Expr, orders []api.Order) []string {
	names := refFirst(e.Subs[0], orders)
	if !refSimple(e.Subs[0]) {
		return names
	}
	var lists [][]string
	for _, a := range e.Alts {
		list := slices.DeleteFunc(slices.Clone(refFirst(a.Body, orders)), func(name string) bool {
			return name == e.Name || slices.Contains(names, name)
		})
		lists = append(lists, upTo(list, a.Names))
	}
	all := slices.Clone(names)
	for i := 0; len(lists) > 0; i++ {
		for _, list := range lists {
			if i >= len(list) || list[i] != lists[0][i] {
				return all
			}
		}
		all = append(all, lists[0][i])
	}
	return all
}

// refOrders says also in how many rounds something changed.
func refOrders(p api.Program) ([]api.Order, int) {
	round := func(orders []api.Order, isFirst bool) []api.Order {
		var next []api.Order
		for _, b := range p.Binds {
			if b.Expr.Kind != api.Lam {
				continue
			}
			order := api.Order{Name: b.Name, Arity: len(b.Expr.Names)}
			if !isFirst {
				for _, name := range refFirst(b.Expr.Subs[0], orders) {
					n := slices.Index(b.Expr.Names, name)
					if n < 0 {
						break
					}
					order.Numbers = append(order.Numbers, n)
				}
			}
			next = append(next, order)
		}
		return next
	}
	orders := round(nil, true)
	for i := range 20 {
		next := round(orders, false)
		if slices.EqualFunc(orders, next, equalOrders) {
			return orders, i
		}
		orders = next
	}
	return orders, 20
}

// refRun counts how often each thing was done.
func refRun(p api.Program, counts map[string]int) api.Program {
	orders, _ := refOrders(p)
	next := core.Next(p)
	var change func(e api.Expr) api.Expr
	change = func(e api.Expr) api.Expr {
		subs, binds, alts := e.Subs, e.Binds, e.Alts
		e.Subs, e.Binds, e.Alts = nil, nil, nil
		for _, s := range subs {
			e.Subs = append(e.Subs, change(s))
		}
		for _, b := range binds {
			e.Binds = append(e.Binds, bind(b.Name, change(b.Expr)))
		}
		for _, a := range alts {
			a.Body = change(a.Body)
			e.Alts = append(e.Alts, a)
		}
		switch e.Kind {
		case api.Let:
			return refLet(e, orders, counts)
		case api.App:
			return refCall(e, orders, counts, &next)
		}
		return e
	}
	q := api.Program{Cons: p.Cons}
	for _, b := range p.Binds {
		q.Binds = append(q.Binds, bind(b.Name, change(b.Expr)))
	}
	if core.Lint(q) != api.OK {
		counts["refused"]++
		return p
	}
	return q
}

func refLet(e api.Expr, orders []api.Order, counts map[string]int) api.Expr {
	x, r := e.Binds[0].Name, e.Binds[0].Expr
	if len(e.Binds) > 1 {
		counts["several binds"]++
		return e
	}
	demands := refFirst(e.Subs[0], orders)
	switch {
	case slices.Contains(core.Free(r), x):
		counts["recursive"]++
	case len(demands) == 0:
		counts["nothing first"]++
	case demands[0] != x && slices.Contains(demands, x):
		counts["not first"]++
	case demands[0] != x:
		counts["another one first"]++
	case !slices.Contains([]int{api.App, api.Let, api.Case, api.Prim}, r.Kind):
		counts["nothing to evaluate"]++
	default:
		counts["Let "+strconv.Itoa(r.Kind)]++
		return ahead(r, x, e.Subs[0])
	}
	return e
}

func refCall(e api.Expr, orders []api.Order, counts map[string]int, next *int) api.Expr {
	order, found := refOrder(e, orders)
	if !found {
		counts["no order"]++
		return e
	}
	e.Subs = slices.Clone(e.Subs)
	around := func(e api.Expr) api.Expr { return e }
	times := 0
numbers:
	for i, n := range order.Numbers {
		arg := e.Subs[1+n]
		switch arg.Kind {
		case api.Lit, api.Lam, api.Con:
			counts["kept"]++
			continue
		case api.Var:
			if i < len(order.Numbers)-1 {
				counts["a Var"]++
			}
			break numbers
		}
		name := "t#" + strconv.Itoa(*next)
		*next++
		times++
		outside := around
		around = func(e api.Expr) api.Expr { return outside(ahead(arg, name, e)) }
		e.Subs[1+n] = v(name)
	}
	counts["App "+strconv.Itoa(min(times, 3))]++
	return around(e)
}
