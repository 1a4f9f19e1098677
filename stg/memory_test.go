package stg_test

import (
	"slices"
	"testing"

	"teasel/api"
	"teasel/stg"
)

const spare = "spare" // marks memory beyond the length of a list

// roomy is a copy of e, each list of which has more room than it needs.
func roomy(e api.Expr) api.Expr {
	e.Names = append(append(make([]string, 0, len(e.Names)+2), e.Names...), spare, spare)[:len(e.Names)]
	e.Subs = append(append(make([]api.Expr, 0, len(e.Subs)+2), e.Subs...), v(spare), v(spare))[:len(e.Subs)]
	for i := range e.Subs {
		e.Subs[i] = roomy(e.Subs[i])
	}
	e.Binds = roomyBinds(e.Binds)
	e.Alts = append(append(make([]api.Alt, 0, len(e.Alts)+2), e.Alts...), other(v(spare)), other(v(spare)))[:len(e.Alts)]
	for i := range e.Alts {
		a := &e.Alts[i]
		a.Names = append(append(make([]string, 0, len(a.Names)+2), a.Names...), spare, spare)[:len(a.Names)]
		a.Body = roomy(a.Body)
	}
	return e
}

func roomyBinds(binds []api.Bind) []api.Bind {
	all := append(append(make([]api.Bind, 0, len(binds)+2), binds...), bind(spare, v(spare)), bind(spare, v(spare)))[:len(binds)]
	for i := range all {
		all[i].Expr = roomy(all[i].Expr)
	}
	return all
}

// whole is e with what stands beyond the length of its lists.
func whole(e api.Expr) api.Expr {
	e.Names = slices.Clone(e.Names[:cap(e.Names)])
	e.Subs = slices.Clone(e.Subs[:cap(e.Subs)])
	for i := range e.Subs {
		e.Subs[i] = whole(e.Subs[i])
	}
	e.Binds = slices.Clone(e.Binds[:cap(e.Binds)])
	for i := range e.Binds {
		e.Binds[i].Expr = whole(e.Binds[i].Expr)
	}
	e.Alts = slices.Clone(e.Alts[:cap(e.Alts)])
	for i := range e.Alts {
		e.Alts[i].Names = slices.Clone(e.Alts[i].Names[:cap(e.Alts[i].Names)])
		e.Alts[i].Body = whole(e.Alts[i].Body)
	}
	return e
}

// lists tells where the elements of all lists in e are, with those that there is
// room for.
func lists(e api.Expr, tell func(at any)) {
	names := e.Names[:cap(e.Names)]
	for i := range names {
		tell(&names[i])
	}
	subs := e.Subs[:cap(e.Subs)]
	for i := range subs {
		tell(&subs[i])
		lists(subs[i], tell)
	}
	listsOf(e.Binds, tell)
	alts := e.Alts[:cap(e.Alts)]
	for i := range alts {
		tell(&alts[i])
		names := alts[i].Names[:cap(alts[i].Names)]
		for j := range names {
			tell(&names[j])
		}
		lists(alts[i].Body, tell)
	}
}

func listsOf(binds []api.Bind, tell func(at any)) {
	binds = binds[:cap(binds)]
	for i := range binds {
		tell(&binds[i])
		lists(binds[i].Expr, tell)
	}
}

func programLists(p api.Program, tell func(at any)) {
	cons := p.Cons[:cap(p.Cons)]
	for i := range cons {
		tell(&cons[i])
	}
	listsOf(p.Binds, tell)
}

// roomyStg is a copy of e, each list of which has more room than it needs.
func roomyStg(e api.Stg) api.Stg {
	e.Args = roomyAtoms(e.Args)
	e.Subs = append(append(make([]api.Stg, 0, len(e.Subs)+2), e.Subs...), sAtom(spare), sAtom(spare))[:len(e.Subs)]
	for i := range e.Subs {
		e.Subs[i] = roomyStg(e.Subs[i])
	}
	e.Binds = roomySBinds(e.Binds)
	e.Alts = append(append(make([]api.SAlt, 0, len(e.Alts)+2), e.Alts...), sOther(sAtom(spare)), sOther(sAtom(spare)))[:len(e.Alts)]
	for i := range e.Alts {
		a := &e.Alts[i]
		a.Names, a.Body = roomyNames(a.Names), roomyStg(a.Body)
	}
	return e
}

func roomyAtoms(atoms []api.Atom) []api.Atom {
	return append(append(make([]api.Atom, 0, len(atoms)+2), atoms...), api.Atom{Name: spare}, api.Atom{N: 77})[:len(atoms)]
}

func roomyNames(names []string) []string {
	return append(append(make([]string, 0, len(names)+2), names...), spare, spare)[:len(names)]
}

func roomySBinds(binds []api.SBind) []api.SBind {
	all := append(append(make([]api.SBind, 0, len(binds)+2), binds...), cell(spare, spare, spare), cell(spare, spare, spare))[:len(binds)]
	for i := range all {
		b := &all[i]
		b.Free, b.Params, b.Args = roomyNames(b.Free), roomyNames(b.Params), roomyAtoms(b.Args)
		b.Body = append(append(make([]api.Stg, 0, len(b.Body)+2), b.Body...), sAtom(spare), sAtom(spare))[:len(b.Body)]
		for j := range b.Body {
			b.Body[j] = roomyStg(b.Body[j])
		}
	}
	return all
}

// wholeSBinds is binds with what stands beyond the length of their lists.
func wholeSBinds(binds []api.SBind) []api.SBind {
	all := slices.Clone(binds[:cap(binds)])
	for i := range all {
		b := &all[i]
		b.Free, b.Params, b.Args = slices.Clone(b.Free[:cap(b.Free)]), slices.Clone(b.Params[:cap(b.Params)]), slices.Clone(b.Args[:cap(b.Args)])
		b.Body = slices.Clone(b.Body[:cap(b.Body)])
		for j := range b.Body {
			b.Body[j] = wholeStg(b.Body[j])
		}
	}
	return all
}

func wholeStg(e api.Stg) api.Stg {
	e.Args, e.Subs, e.Binds = slices.Clone(e.Args[:cap(e.Args)]), slices.Clone(e.Subs[:cap(e.Subs)]), wholeSBinds(e.Binds)
	for i := range e.Subs {
		e.Subs[i] = wholeStg(e.Subs[i])
	}
	e.Alts = slices.Clone(e.Alts[:cap(e.Alts)])
	for i := range e.Alts {
		a := &e.Alts[i]
		a.Names, a.Body = slices.Clone(a.Names[:cap(a.Names)]), wholeStg(a.Body)
	}
	return e
}

func tellEach[E any](list []E, tell func(at any)) {
	list = list[:cap(list)]
	for i := range list {
		tell(&list[i])
	}
}

// listsOfStg tells where the elements of all lists in e are, with those that there
// is room for.
func listsOfStg(e api.Stg, tell func(at any)) {
	tellEach(e.Args, tell)
	tellEach(e.Subs, tell)
	for _, s := range e.Subs[:cap(e.Subs)] {
		listsOfStg(s, tell)
	}
	listsOfSBinds(e.Binds, tell)
	tellEach(e.Alts, tell)
	for _, a := range e.Alts[:cap(e.Alts)] {
		tellEach(a.Names, tell)
		listsOfStg(a.Body, tell)
	}
}

func listsOfSBinds(binds []api.SBind, tell func(at any)) {
	tellEach(binds, tell)
	for _, b := range binds[:cap(binds)] {
		tellEach(b.Free, tell)
		tellEach(b.Params, tell)
		tellEach(b.Args, tell)
		tellEach(b.Body, tell)
		for _, e := range b.Body[:cap(b.Body)] {
			listsOfStg(e, tell)
		}
	}
}

func sProgramLists(q api.SProgram, tell func(at any)) {
	tellEach(q.Cons, tell)
	listsOfSBinds(q.Binds, tell)
}

// spoilAll changes all that is in a list.
func spoilAll(at any) {
	switch at := at.(type) {
	case *string:
		*at = spare
	case *api.Cons:
		at.Name, at.Arity = spare, -1
	case *api.Atom:
		at.Name, at.N = spare, -1
	case *api.Expr:
		at.Kind, at.Name, at.N = -1, spare, -1
	case *api.Bind:
		at.Name = spare
	case *api.Alt:
		at.Kind, at.Name = -1, spare
	case *api.Stg:
		at.Kind, at.Name, at.Op = -1, spare, -1
	case *api.SBind:
		at.Kind, at.Name, at.Con, at.Update = -1, spare, spare, true
	case *api.SAlt:
		at.Kind, at.Name = -1, spare
	}
}

// R2: what Of is handed is left as it is, with all memory beyond the length of
// lists; what is answered shares no memory with it, with other answers, or within
// itself; what is done with an answer does not change another one.
func TestMemory(t *testing.T) {
	m := newMaker(9)
	for i := range 800 {
		p := m.program(m.Intn(4), 1+i%5)
		p.Binds = roomyBinds(p.Binds)
		p.Cons = append(p.Cons, api.Cons{Name: spare})[:len(p.Cons)]
		before, cons := whole(let(lit(1), p.Binds...)), slices.Clone(p.Cons[:len(p.Cons)+1])
		taken := map[any]bool{}
		programLists(p, func(at any) { taken[at] = true })
		want := refOf(p)
		var answers []api.SProgram
		for n := range 3 {
			q, _ := stg.Of(p)
			answers = append(answers, q)
			sProgramLists(q, func(at any) {
				if taken[at] {
					t.Fatalf("%d: the answer for %s shares memory", n, sayProgram(p))
				}
				taken[at] = true
			})
		}
		for n, q := range answers {
			sProgramLists(q, spoilAll)
			for _, r := range append(answers[n+1:], made(t, p)) {
				if !equalSPrograms(r, want) {
					t.Fatalf("%s: another answer", sayProgram(p))
				}
			}
		}
		if !equal(before, whole(let(lit(1), p.Binds...))) || !slices.Equal(cons, p.Cons[:len(cons)]) {
			t.Fatalf("%s is changed", sayProgram(p))
		}
	}
}

// R2: the same of Core.
func TestMemoryOfCore(t *testing.T) {
	m := newMaker(10)
	for i := range 2000 {
		q := api.SProgram{Cons: append(cons(), api.Cons{Name: spare})[:m.Intn(8)], Binds: m.anyBinds(m.Intn(5), 1+i%5)}
		if i%3 == 0 {
			q = made(t, m.program(m.Intn(3), 1+i%5))
		}
		q.Binds = roomySBinds(q.Binds)
		before, cons := wholeSBinds(q.Binds), slices.Clone(q.Cons[:cap(q.Cons)])
		taken := map[any]bool{}
		sProgramLists(q, func(at any) { taken[at] = true })
		want := refCore(q)
		var answers []api.Program
		for n := range 3 {
			p := stg.Core(q)
			answers = append(answers, p)
			programLists(p, func(at any) {
				if taken[at] {
					t.Fatalf("%d: the answer for %s shares memory", n, saySBinds(q.Binds))
				}
				taken[at] = true
			})
		}
		for n, p := range answers {
			programLists(p, spoilAll)
			for _, r := range append(answers[n+1:], stg.Core(q)) {
				if !equalPrograms(r, want) {
					t.Fatalf("%s: another answer", saySBinds(q.Binds))
				}
			}
		}
		if !slices.EqualFunc(before, wholeSBinds(q.Binds), equalSBinds) || !slices.Equal(cons, q.Cons[:cap(q.Cons)]) {
			t.Fatalf("%s is changed", saySBinds(q.Binds))
		}
	}
}

// R2: the same of Straight.
func TestMemoryOfStraight(t *testing.T) {
	m := newMaker(11)
	for i := range 3000 {
		e := roomy(m.any(2 + i%6))
		before := whole(e)
		for _, name := range []string{"a", "b", "c"} {
			if want := refStraight(e, name); stg.Straight(e, name) != want || stg.Straight(e, name) != want {
				t.Fatalf("%s: another answer", say(e))
			}
		}
		if !equal(before, whole(e)) {
			t.Fatalf("%s is changed", say(e))
		}
	}
}
