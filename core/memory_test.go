package core_test

import (
	"reflect"
	"slices"
	"testing"

	"teasel/api"
	"teasel/core"
)

const spare = "spare" // marks memory beyond the length of a list

// roomy is a copy of e, each list of which has more room than it needs.
func roomy(e api.Expr) api.Expr {
	e.Names = append(append(make([]string, 0, len(e.Names)+2), e.Names...), spare, spare)[:len(e.Names)]
	subs := append(append(make([]api.Expr, 0, len(e.Subs)+2), e.Subs...), v(spare), v(spare))
	e.Subs = subs[:len(e.Subs)]
	for i := range e.Subs {
		e.Subs[i] = roomy(e.Subs[i])
	}
	binds := append(append(make([]api.Bind, 0, len(e.Binds)+2), e.Binds...), bind(spare, v(spare)), bind(spare, v(spare)))
	e.Binds = binds[:len(e.Binds)]
	for i := range e.Binds {
		e.Binds[i].Expr = roomy(e.Binds[i].Expr)
	}
	alts := append(append(make([]api.Alt, 0, len(e.Alts)+2), e.Alts...), other(v(spare)), other(v(spare)))
	e.Alts = alts[:len(e.Alts)]
	for i := range e.Alts {
		a := &e.Alts[i]
		a.Names = append(append(make([]string, 0, len(a.Names)+2), a.Names...), spare, spare)[:len(a.Names)]
		a.Body = roomy(a.Body)
	}
	return e
}

// whole is e with what stands beyond the length of its lists.
func whole(e api.Expr) api.Expr {
	e.Names = slices.Clone(e.Names[:cap(e.Names)])
	e.Subs = slices.Clone(e.Subs[:cap(e.Subs)])
	for i := range e.Subs {
		e.Subs[i] = whole(e.Subs[i])
	}
	e.Binds = slices.Clone(e.Binds[:cap(e.Binds)])
	for i := range e.Binds {
		e.Binds[i].Expr = whole(e.Binds[i].Expr)
	}
	e.Alts = slices.Clone(e.Alts[:cap(e.Alts)])
	for i := range e.Alts {
		e.Alts[i].Names = slices.Clone(e.Alts[i].Names[:cap(e.Alts[i].Names)])
		e.Alts[i].Body = whole(e.Alts[i].Body)
	}
	return e
}

// R2: what is handed in is left as it is, with all memory beyond the length of
// lists.
func TestUntouched(t *testing.T) {
	m := newMaker(70, "a", "b", "c", "t#1")
	for i := range 3000 {
		if m.fits = i%2 == 0; m.fits {
			m.count = 0
		}
		p := m.program(5)
		if i%3 == 0 {
			m.spoil(&p)
		}
		all := roomy(let(lit(1), p.Binds...))
		by := roomy(m.expr(3, []string{"a"}))
		p.Binds = all.Binds
		p.Cons = append(p.Cons, api.Cons{Name: spare})[:len(p.Cons)]
		cons := slices.Clone(p.Cons[:len(p.Cons)+1])
		before := whole(all)
		twin := whole(by)
		core.Lint(p)
		core.Next(p)
		core.Groups(all.Binds...)
		for _, b := range p.Binds {
			core.Free(b.Expr)
			core.Binders(b.Expr)
			core.Size(b.Expr)
			core.Depth(b.Expr)
			core.Same(b.Expr, by)
			core.Same(b.Expr, all)
			for _, name := range []string{"a", "x1", "q1"} {
				core.Replace(b.Expr, name, by)
			}
		}
		if !equal(before, whole(all)) || !equal(twin, whole(by)) || !slices.Equal(cons, p.Cons[:len(cons)]) {
			t.Fatalf("%s is changed", sayBinds(p.Binds))
		}
	}
}

// lists tells where the elements of all lists in e are, with those that there is
// room for.
func lists(e api.Expr, tell func(at any)) {
	names := e.Names[:cap(e.Names)]
	for i := range names {
		tell(&names[i])
	}
	subs := e.Subs[:cap(e.Subs)]
	for i := range subs {
		tell(&subs[i])
		lists(subs[i], tell)
	}
	binds := e.Binds[:cap(e.Binds)]
	for i := range binds {
		tell(&binds[i])
		lists(binds[i].Expr, tell)
	}
	alts := e.Alts[:cap(e.Alts)]
	for i := range alts {
		tell(&alts[i])
		names := alts[i].Names[:cap(alts[i].Names)]
		for j := range names {
			tell(&names[j])
		}
		lists(alts[i].Body, tell)
	}
}

// R2: what Replace answers shares no memory with what was handed in, with other
// answers, or within itself.
func TestReplacedApart(t *testing.T) {
	m := newMaker(71, "a", "b", "c")
	for range 3000 {
		e, by := m.expr(5, nil), m.expr(3, nil)
		shared := m.expr(3, nil)
		e = app(e, shared, shared, let(shared, bind("d", shared)), v("a"), v("a"))
		if m.Intn(2) == 0 {
			by = app(shared, shared)
		}
		taken := map[any]bool{}
		lists(e, func(at any) { taken[at] = true })
		lists(by, func(at any) { taken[at] = true })
		for _, name := range []string{"a", "a", "b", "none"} {
			lists(core.Replace(e, name, by), func(at any) {
				if taken[at] {
					t.Fatalf("%s for %s in %s shares memory", say(by), name, say(e))
				}
				taken[at] = true
			})
		}
		lists(core.Replace(v("a"), "a", by), func(at any) {
			if taken[at] {
				t.Fatalf("%s shares memory", say(by))
			}
		})
	}
}

// R2: what is done with a list that is answered, or beyond its length, changes
// no other one, and nothing that was handed in.
func TestListsApart(t *testing.T) {
	e := lam("x y", app(v("c"), v("b"), v("a")))
	free, again := core.Free(e), core.Free(e)
	binders, names := core.Binders(e), core.Binders(e)
	for i := range free {
		free[i] = spare
	}
	for i := range binders {
		binders[i] = spare
	}
	_ = append(free[:1], spare, spare, spare)
	_ = append(binders[:1], spare, spare, spare)
	wantWords(t, "Free", again, "a b c")
	wantWords(t, "Binders", names, "x y")
	wantWords(t, "the names", e.Names, "x y")
	alone := lam("x y", lit(1))
	core.Binders(alone)[0] = spare
	wantWords(t, "the names alone", alone.Names, "x y")
	binds := readBinds("a = b; b = a; c = d; d = c; e = ; f = g; g = h; h = f")
	one, two := core.Groups(binds...), core.Groups(binds...)
	for i := range one {
		grown := append(one[i], -1, -1, -1)
		for j := range grown {
			grown[j] = -1
		}
		if got := sayGroups(one[i+1:]); got != sayGroups(two[i+1:]) {
			t.Error(got)
		}
		for j := range one[i] {
			one[i][j] = -1
		}
	}
	if got := sayGroups(two); got != "0 1, 2 3, 4, 5 6 7" {
		t.Error(got)
	}
}

// R3: calls depend on no earlier ones.
func TestSameAgain(t *testing.T) {
	m := newMaker(72, "a", "b", "c", "t#1", "t#5")
	ask := func(p api.Program) []any {
		all := []any{core.Lint(p), core.Next(p), core.Groups(p.Binds...)}
		for _, b := range p.Binds {
			all = append(all, core.Free(b.Expr), core.Binders(b.Expr), core.Size(b.Expr), core.Depth(b.Expr), core.Same(b.Expr, p.Binds[0].Expr), core.Replace(b.Expr, "a", lit(1)))
		}
		return all
	}
	for range 1000 {
		p := m.program(5)
		one := ask(p)
		ask(m.program(4))
		if two := ask(cloneProgram(p)); !reflect.DeepEqual(one, two) {
			t.Fatalf("%s: %v, %v", sayBinds(p.Binds), one, two)
		}
	}
}
