package demand_test

import (
	"slices"
	"testing"

	"teasel/api"
	"teasel/demand"
)

const spare = "spare" // marks memory beyond the length of a list

// roomy is a copy of e, each list of which has more room than it needs.
func roomy(e api.Expr) api.Expr {
	e.Names = append(append(make([]string, 0, len(e.Names)+2), e.Names...), spare, spare)[:len(e.Names)]
	e.Subs = append(append(make([]api.Expr, 0, len(e.Subs)+2), e.Subs...), v(spare), v(spare))[:len(e.Subs)]
	for i := range e.Subs {
		e.Subs[i] = roomy(e.Subs[i])
	}
	e.Binds = roomyBinds(e.Binds)
	e.Alts = append(append(make([]api.Alt, 0, len(e.Alts)+2), e.Alts...), other(v(spare)), other(v(spare)))[:len(e.Alts)]
	for i := range e.Alts {
		a := &e.Alts[i]
		a.Names = append(append(make([]string, 0, len(a.Names)+2), a.Names...), spare, spare)[:len(a.Names)]
		a.Body = roomy(a.Body)
	}
	return e
}

func roomyBinds(binds []api.Bind) []api.Bind {
	all := append(append(make([]api.Bind, 0, len(binds)+2), binds...), bind(spare, v(spare)), bind(spare, v(spare)))[:len(binds)]
	for i := range all {
		all[i].Expr = roomy(all[i].Expr)
	}
	return all
}

// whole is e with what stands beyond the length of its lists.
func whole(e api.Expr) api.Expr {
	e.Names = slices.Clone(e.Names[:cap(e.Names)])
	e.Subs = slices.Clone(e.Subs[:cap(e.Subs)])
	for i := range e.Subs {
		e.Subs[i] = whole(e.Subs[i])
	}
	e.Binds = slices.Clone(e.Binds[:cap(e.Binds)])
	for i := range e.Binds {
		e.Binds[i].Expr = whole(e.Binds[i].Expr)
	}
	e.Alts = slices.Clone(e.Alts[:cap(e.Alts)])
	for i := range e.Alts {
		e.Alts[i].Names = slices.Clone(e.Alts[i].Names[:cap(e.Alts[i].Names)])
		e.Alts[i].Body = whole(e.Alts[i].Body)
	}
	return e
}

// lists tells where the elements of all lists in e are, with those that there is
// room for.
func lists(e api.Expr, tell func(at any)) {
	names := e.Names[:cap(e.Names)]
	for i := range names {
		tell(&names[i])
	}
	subs := e.Subs[:cap(e.Subs)]
	for i := range subs {
		tell(&subs[i])
		lists(subs[i], tell)
	}
	listsOf(e.Binds, tell)
	alts := e.Alts[:cap(e.Alts)]
	for i := range alts {
		tell(&alts[i])
		names := alts[i].Names[:cap(alts[i].Names)]
		for j := range names {
			tell(&names[j])
		}
		lists(alts[i].Body, tell)
	}
}

func listsOf(binds []api.Bind, tell func(at any)) {
	binds = binds[:cap(binds)]
	for i := range binds {
		tell(&binds[i])
		lists(binds[i].Expr, tell)
	}
}

func programLists(p api.Program, tell func(at any)) {
	cons := p.Cons[:cap(p.Cons)]
	for i := range cons {
		tell(&cons[i])
	}
	listsOf(p.Binds, tell)
}

// R2: what is handed in is left as it is, with all memory beyond the length of
// lists; what is answered shares no memory with it, with other answers, or within
// itself; what is done with an answer does not change another one.
func TestMemory(t *testing.T) {
	m := newMaker(4)
	stayed := 0
	for i := range 1500 {
		p := m.program(m.Intn(4), 1+i%6)
		if i%5 == 0 { // a program that stays, as Lint would refuse what it becomes
			p.Binds = append(p.Binds, bind("t#999999999", lam("t#1000000000", v("t#1000000000"))), bind("M.stays", app(v("t#999999999"), get())))
		}
		p.Binds = roomyBinds(p.Binds)
		p.Cons = append(p.Cons, api.Cons{Name: spare})[:len(p.Cons)]
		before, cons := whole(let(lit(1), p.Binds...)), slices.Clone(p.Cons[:len(p.Cons)+1])
		taken := map[any]bool{}
		programLists(p, func(at any) { taken[at] = true })
		var answers []api.Program
		first := changed(t, p)
		said := sayProgram(first)
		for n := range 3 {
			q := changed(t, p)
			answers = append(answers, q)
			programLists(q, func(at any) {
				if taken[at] {
					t.Fatalf("%d: the answer for %s shares memory", n, sayProgram(p))
				}
				taken[at] = true
			})
		}
		if equalPrograms(first, p) {
			stayed++
		} else if i%5 == 0 {
			t.Fatalf("%s changes", sayProgram(p))
		}
		for n, q := range answers {
			spoilAll(q)
			for _, r := range answers[n+1:] {
				if !equalPrograms(r, first) {
					t.Fatalf("%s: another answer", sayProgram(p))
				}
			}
		}
		if sayProgram(first) != said || sayProgram(changed(t, p)) != said {
			t.Fatalf("%s: another answer", sayProgram(p))
		}
		if !equal(before, whole(let(lit(1), p.Binds...))) || !slices.Equal(cons, p.Cons[:len(cons)]) {
			t.Fatalf("%s is changed", sayProgram(p))
		}
	}
	if stayed < 300 || stayed > 1200 {
		t.Error(stayed)
	}
}

// R2: the same of Orders.
func TestMemoryOfOrders(t *testing.T) {
	m := newMaker(5)
	for i := range 1000 {
		p := m.program(1+m.Intn(4), 1+i%6)
		p.Binds = roomyBinds(p.Binds)
		before := whole(let(lit(1), p.Binds...))
		want, _ := refOrders(p)
		taken := map[*int]bool{}
		var answers [][]api.Order
		for range 3 {
			orders, _ := demand.Orders(p)
			answers = append(answers, orders)
			for _, o := range orders {
				numbers := o.Numbers[:cap(o.Numbers)]
				for i := range numbers {
					if taken[&numbers[i]] {
						t.Fatal("shared memory")
					}
					taken[&numbers[i]] = true
				}
			}
		}
		for n, orders := range answers {
			for i := range orders {
				for j := range orders[i].Numbers[:cap(orders[i].Numbers)] {
					orders[i].Numbers[:cap(orders[i].Numbers)][j] = -9
				}
				orders[i] = order(spare, -1)
			}
			for _, others := range answers[n+1:] {
				if !slices.EqualFunc(others, want, equalOrders) {
					t.Fatalf("%s: another answer", sayProgram(p))
				}
			}
		}
		wantOrders(t, p, want...)
		if !equal(before, whole(let(lit(1), p.Binds...))) {
			t.Fatalf("%s is changed", sayProgram(p))
		}
	}
}

// R2: the same of First, and of the orders that it is handed.
func TestMemoryOfFirst(t *testing.T) {
	m := newMaker(6)
	for i := range 3000 {
		e := roomy(m.any(2 + i%6))
		orders := m.anyOrders()
		for i := range orders {
			orders[i].Numbers = append(orders[i].Numbers, 77, 78)[:len(orders[i].Numbers)]
		}
		orders = append(orders, order(spare, 1))[:len(orders)]
		before := whole(e)
		var ordersBefore []api.Order
		for _, o := range orders[:len(orders)+1] {
			o.Numbers = slices.Clone(o.Numbers[:cap(o.Numbers)])
			ordersBefore = append(ordersBefore, o)
		}
		want := refFirst(e, orders)
		one, two := demand.First(e, orders...), demand.First(e, orders...)
		for i := range one[:cap(one)] {
			one[:cap(one)][i] = spare
		}
		if !slices.Equal(two, want) || !slices.Equal(demand.First(e, orders...), want) {
			t.Fatalf("%s: another answer", say(e))
		}
		same := func(a, b api.Order) bool {
			return a.Name == b.Name && a.Arity == b.Arity && slices.Equal(a.Numbers, b.Numbers[:cap(b.Numbers)])
		}
		if !equal(before, whole(e)) || !slices.EqualFunc(ordersBefore, orders[:len(orders)+1], same) {
			t.Fatalf("%s, %v is changed", say(e), orders)
		}
	}
}

// spoilAll changes all that is in a program.
func spoilAll(p api.Program) {
	programLists(p, func(at any) {
		switch at := at.(type) {
		case *string:
			*at = spare
		case *api.Cons:
			at.Name, at.Arity = spare, -1
		}
	})
	for i := range p.Binds {
		p.Binds[i] = bind(spare, lit(-1))
	}
}
