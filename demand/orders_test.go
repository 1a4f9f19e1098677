package demand_test

import (
	"testing"

	"teasel/api"
	"teasel/demand"
)

// lone holds the order of a function in a program with a few others.
func lone(t *testing.T, e api.Expr, numbers ...int) {
	t.Helper()
	p := program(append(functions(), bind("M.f", e), boxed(lit(1)))...)
	wantOrders(t, p, append(known(), order("M.f", len(e.Names), numbers...), order(api.Main, 2))...)
}

// known is the orders of functions.
func known() []api.Order {
	return []api.Order{order("M.none", 2), order("M.one", 2, 1), order("M.two", 2, 1, 0), order("M.all", 3, 0, 1, 2)}
}

// P15.1: the orders of functions that use no other ones, or those ahead of them.
func TestOrders(t *testing.T) {
	x, y, z := v("x"), v("y"), v("z")
	lone(t, lam("x", x), 0)
	lone(t, lam("x y", x), 0)
	lone(t, lam("x y", y), 1)
	lone(t, lam("x y", lit(1)))
	lone(t, lam("x y", pair(x, y)))
	lone(t, lam("x y", lam("z", x)))
	lone(t, lam("x", add(x, x)), 0)
	lone(t, lam("x y z", add(add(x, y), z)), 0, 1, 2)
	lone(t, lam("z x y", add(add(x, y), z)), 1, 2, 0)
	lone(t, lam("x y z", add(z, x)), 2, 0)
	// up to the first name that is not one of its Names
	lone(t, lam("x y", add(x, add(v("M.value"), y))), 0)
	lone(t, lam("x y", add(v("M.value"), add(x, y))))
	lone(t, lam("x y", app(v("M.value"), x, y)))
	lone(t, lam("x y", app(v("M.f"), x)))
	lone(t, lam("x y", app(x, y)), 0)
	// of a Case, without its own names
	lone(t, lam("x y", cas(x, "k", other(add(v("k"), y)))), 0, 1)
	lone(t, lam("x y", cas(get(), "k", other(add(v("k"), y)))))
	lone(t, lam("x y", cas(x, "k", conAlt("Cons", "h r", add(y, v("h"))), conAlt("Nil", "", y))), 0, 1)
	lone(t, lam("x y z", let1("q", x, add(y, add(v("q"), z)))), 1)
	// by the orders of others
	lone(t, lam("x y", app(v("M.two"), x, y)), 1, 0)
	lone(t, lam("x y", app(v("M.two"), y, x)), 0, 1)
	lone(t, lam("x y", app(v("M.two"), x, add(y, lit(1)))), 1, 0)
	lone(t, lam("x y", app(v("M.two"), x, prim(api.Quot, y, lit(1)))), 1)
	lone(t, lam("x y", app(v("M.two"), get(), y)), 1)
	lone(t, lam("x y", app(v("M.two"), y, get())))
	lone(t, lam("x y", app(v("M.none"), x, y)))
	lone(t, lam("x y", app(v("M.all"), x, y)))
	lone(t, lam("x y z", app(v("M.all"), x, y, z)), 0, 1, 2)
	lone(t, lam("x y z", app(v("M.all"), z, y, z, x)), 2, 1)
	lone(t, lam("x y z", app(v("M.one"), x, app(v("M.two"), y, z))), 2, 1)
	// by its own
	lone(t, lam("x y", app(v("M.f"), x, y)))
	lone(t, lam("x y", cas(x, "k", litAlt(0, y), other(app(v("M.f"), prim(api.Minus, x, lit(1)), y)))), 0)
	lone(t, lam("x y", cas(prim(api.Eq, x, y), "k", conAlt(api.True, "", y), conAlt(api.False, "", app(v("M.f"), y, x)))), 0, 1)
	// the chapter's example
	lone(t, lam("x y", cas(prim(api.Le, x, lit(0)), "k", conAlt(api.True, "", y), conAlt(api.False, "", add(y, x)))), 0, 1)
	// as no order has Numbers at first, a call of itself demands nothing in the first round
	lone(t, lam("x y z", cas(x, "k", litAlt(0, add(y, z)), other(app(v("M.f"), lit(1), y, z)))), 0)
}

// P15.1: of which Binds there are orders.
func TestOrdersOfBinds(t *testing.T) {
	wantOrders(t, program(bind(api.Main, lit(1))))
	wantOrders(t, program(bind("M.a", get()), bind(api.Main, v("M.a")), bind("M.b", let1("x", lit(1), lam("y", v("y")))), bind("M.c", con("Nil")), bind("M.d", app(v("M.a"), lit(1)))))
	wantOrders(t, program(bind("M.z", lam("x y", v("y"))), bind("M.v", lit(3)), bind(api.Main, lam("s", v("s"))), bind("M.a", lam("a b c d", lit(1)))),
		order("M.z", 2, 1), order(api.Main, 1, 0), order("M.a", 4))
	wantOrders(t, program(functions()[0], boxed(lit(1)), functions()[3]), order("M.none", 2), order(api.Main, 2), order("M.all", 3, 0, 1, 2))
	// a name of something else is no function
	p := program(bind("M.a", v("M.b")), bind("M.b", lam("x", v("x"))), bind("M.c", lam("y", app(v("M.a"), v("y")))), boxed(lit(1)))
	wantOrders(t, p, order("M.b", 1, 0), order("M.c", 1), order(api.Main, 2))
}

// chain is functions that call the next one each, in the program's order or against
// it, with the last one looking at its argument; and main.
func chain(count int, backward bool) api.Program {
	binds := make([]api.Bind, count)
	for i := range binds {
		body := v("a" + x(i))
		if i < count-1 {
			body = app(v(x(i+1)), v("b"+x(i)), v("a"+x(i)))
		}
		at := i
		if backward {
			at = count - 1 - i
		}
		binds[at] = bind(x(i), lam("a"+x(i)+" b"+x(i), body))
	}
	return program(append(binds, boxed(lit(1)))...)
}

// P15.1: orders that depend on each other, in so many rounds: all of one round are
// computed from those of the round ahead.
func TestRounds(t *testing.T) {
	for _, count := range []int{1, 2, 3, 5, 18, 19, 20, 21, 22, 30, 50} {
		for _, backward := range []bool{false, true} {
			p := chain(count, backward)
			var want []api.Order
			for at := range count {
				i := at
				if backward {
					i = count - 1 - at
				}
				o := order(x(i), 2)
				if behind := count - 1 - i; behind < 20 { // each round settles one more
					o.Numbers = []int{behind % 2}
				}
				want = append(want, o)
			}
			wantOrders(t, p, append(want, order(api.Main, 2))...)
		}
	}
	// two that call each other: where one ends, its other argument is looked at, but that of the call is not yet certain in the first round
	even := bind("M.even", lam("n a", cas(v("n"), "k", litAlt(0, v("a")), other(app(v("M.odd"), prim(api.Minus, v("k"), lit(1)), v("a"))))))
	odd := bind("M.odd", lam("m b", cas(v("m"), "j", litAlt(0, v("b")), other(app(v("M.even"), prim(api.Minus, v("j"), lit(1)), v("b"))))))
	wantOrders(t, program(even, odd, boxed(lit(1))), order("M.even", 2, 0), order("M.odd", 2, 0), order(api.Main, 2))
	wantOrders(t, program(odd, even, boxed(lit(1))), order("M.odd", 2, 0), order("M.even", 2, 0), order(api.Main, 2))
	// two that do nothing but call each other
	wantOrders(t, program(bind("M.a", lam("p", app(v("M.b"), v("p")))), bind("M.b", lam("q", app(v("M.a"), v("q")))), boxed(lit(1))), order("M.a", 1), order("M.b", 1), order(api.Main, 2))
	// numbers that come one by one: each round brings one more
	turn := bind("M.turn", lam("c d e", cas(v("c"), "k", litAlt(0, add(v("d"), v("e"))), other(app(v("M.turn"), v("d"), v("e"), v("c"))))))
	wantOrders(t, program(turn, boxed(lit(1))), order("M.turn", 3, 0, 1, 2), order(api.Main, 2))
}

// P15.1: an order of the program is that of First for the orders of a round ahead.
func TestOrdersByFirst(t *testing.T) {
	p := chain(8, false)
	var orders []api.Order
	for i := range 8 {
		orders = append(orders, order(x(i), 2))
	}
	for range 9 {
		var next []api.Order
		for i, o := range orders {
			for _, name := range demand.First(p.Binds[i].Expr.Subs[0], orders...) {
				if name == "a"+x(i) {
					o.Numbers = []int{0}
				} else {
					o.Numbers = []int{1}
				}
			}
			next = append(next, o)
		}
		orders = next
	}
	wantOrders(t, p, append(orders, order(api.Main, 2))...)
}
