package occur_test

import (
	"strconv"
	"strings"
	"testing"

	"teasel/api"
	"teasel/occur"
)

// P13.2: which binds an expression needs.
func TestLive(t *testing.T) {
	one := lit(1)
	a, b, c, d := v("a"), v("b"), v("c"), v("d")
	// no binds, and such that nothing needs
	wantLive(t, "", a)
	wantLive(t, "", one, bind("a", one))
	wantLive(t, "", one, bind("a", b), bind("b", a))
	wantLive(t, "", v("e"), bind("a", one), bind("b", v("e")))
	// one and several
	wantLive(t, "0", a, bind("a", one))
	wantLive(t, "1", b, bind("a", one), bind("b", one))
	wantLive(t, "0 1", app(b, a), bind("a", one), bind("b", one))
	wantLive(t, "0 2", app(c, c, a), bind("a", one), bind("b", a), bind("c", one))
	// binds that need each other, and themselves
	wantLive(t, "0 1", a, bind("a", b), bind("b", a))
	wantLive(t, "0 1", b, bind("a", b), bind("b", a), bind("c", app(a, c)))
	wantLive(t, "0", a, bind("a", app(a, a)))
	wantLive(t, "0 1 2", c, bind("a", b), bind("b", a), bind("c", a))
	// chains in both orders
	wantLive(t, "0 1 2 3", a, bind("a", b), bind("b", c), bind("c", d), bind("d", one))
	wantLive(t, "2 3", c, bind("a", b), bind("b", c), bind("c", d), bind("d", one))
	wantLive(t, "0 1 2 3", d, bind("a", one), bind("b", a), bind("c", b), bind("d", c))
	wantLive(t, "0 1", b, bind("a", one), bind("b", a), bind("c", b), bind("d", c))
	// of two binds with the same name the first counts
	wantLive(t, "0", a, bind("a", one), bind("a", one))
	wantLive(t, "0", a, bind("a", one), bind("a", b), bind("b", one))
	wantLive(t, "0 2", a, bind("a", b), bind("a", one), bind("b", one), bind("b", one))
	wantLive(t, "1", b, bind("a", one), bind("b", one), bind("a", one))
	// a name that is bound where it occurs is not free
	wantLive(t, "", lam("a", a), bind("a", one))
	wantLive(t, "1", app(lam("a", a), b), bind("a", one), bind("b", lam("x a", a)))
	wantLive(t, "0 1", app(lam("a", a), b), bind("a", one), bind("b", lam("x", a)))
	wantLive(t, "0", cas(a, "a", other(a)), bind("a", one))
	wantLive(t, "", cas(one, "a", other(a)), bind("a", one))
	wantLive(t, "1", let(b, bind("a", a)), bind("a", one), bind("b", one))
	// inside others of each Kind
	wantLive(t, "0 1 2 3", con("Pair", prim(api.Put, a), cas(b, "x", litAlt(1, c), other(lam("y", let(d, bind("z", one)))))), bind("a", one), bind("b", one), bind("c", one), bind("d", one), bind("e", one))
}

// P13.3: which Binds main needs.
func TestReached(t *testing.T) {
	main, one := v(api.Main), lit(1)
	z, m, q := v("M.z"), v("M.a"), v("M.q")
	// without main, and with it alone
	wantReached(t, "")
	wantReached(t, "", bind("M.a", one), bind("M.z", m))
	wantReached(t, "", bind("M.a", main))
	wantReached(t, api.Main, boxed(one))
	wantReached(t, api.Main, bind(api.Main, main))
	wantReached(t, api.Main, bind("M.a", main), boxed(one), bind("M.z", m))
	// directly, and by others
	wantReached(t, "M.a Main.main", boxed(m), bind("M.a", one), bind("M.z", one))
	wantReached(t, "M.a M.z Main.main", bind("M.z", m), boxed(z), bind("M.a", one), bind("M.q", m))
	wantReached(t, "M.a M.q M.z Main.main", bind("M.a", one), bind("M.q", m), bind("M.z", q), boxed(lam("x", z)))
	// in circles
	wantReached(t, "M.a M.z Main.main", bind("M.z", m), bind("M.a", z), bind("M.q", main), boxed(z))
	wantReached(t, "M.a Main.main", bind("M.z", q), bind("M.q", z), boxed(m), bind("M.a", app(m, main)))
	// names that are free and are no Binds, and such that are bound
	wantReached(t, "M.a Main.main", boxed(app(v("x"), m, v("s"), v("Prim.x"))), bind("M.a", v("y")), bind("M.z", one))
	wantReached(t, "M.z Main.main", boxed(app(lam("M.a", m), z)), bind("M.a", one), bind("M.z", let(m, bind("M.a", m))))
	// in bytewise order
	wantReached(t, "A.x A.x' A.x1 A.xA A.xa B.a Main.main", boxed(con("Pair", v("A.xa"), app(v("A.x'"), v("A.x1"), v("A.xA"), v("A.x"), v("B.a")))),
		bind("B.a", one), bind("A.xa", one), bind("A.x1", one), bind("A.x", one), bind("A.xA", one), bind("A.x'", one))
	wantReached(t, "Main.main Z.a m#1 m#10 m#2", boxed(app(v("m#2"), v("m#10"), v("m#1"), v("Z.a"))), bind("m#1", one), bind("m#2", one), bind("m#10", one), bind("Z.a", one))
	// Of two Binds with the same name the first counts.
	wantReached(t, "M.a Main.main", boxed(m), bind("M.a", one), bind("M.a", z), bind("M.z", one))
	wantReached(t, "M.a M.z Main.main", boxed(m), bind("M.a", z), bind("M.a", one), bind("M.z", one))
	wantReached(t, "Main.main", boxed(one), boxed(m), bind("M.a", one))
	// Cons are not looked at.
	if got := strings.Join(occur.Reached(api.Program{Binds: []api.Bind{boxed(m), bind("M.a", con("X"))}}), " "); got != "M.a Main.main" {
		t.Error(got)
	}
}

// Many binds.
func TestManyBinds(t *testing.T) {
	var rising, falling []api.Bind
	var all []string
	const count = 20000
	for i := range count {
		next, last := v("x"+strconv.Itoa(i+1)), v("x"+strconv.Itoa(i-1))
		rising, falling = append(rising, bind("x"+strconv.Itoa(i), next)), append(falling, bind("x"+strconv.Itoa(i), last))
		all = append(all, strconv.Itoa(i))
	}
	wantLive(t, strings.Join(all, " "), v("x0"), rising...)
	wantLive(t, strings.Join(all, " "), v("x"+strconv.Itoa(count-1)), falling...)
	wantLive(t, "0 1 2", v("x2"), falling...)
	if got := len(occur.Reached(program(append(falling, boxed(v("x9999")))...))); got != 10001 {
		t.Error(got)
	}
}
