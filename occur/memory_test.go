package occur_test

import (
	"slices"
	"testing"

	"teasel/api"
	"teasel/occur"
)

const spare = "spare" // marks memory beyond the length of a list

// roomy is a copy of e, each list of which has more room than it needs.
func roomy(e api.Expr) api.Expr {
	e.Names = append(append(make([]string, 0, len(e.Names)+2), e.Names...), spare, spare)[:len(e.Names)]
	subs := append(append(make([]api.Expr, 0, len(e.Subs)+2), e.Subs...), v(spare), v(spare))
	e.Subs = subs[:len(e.Subs)]
	for i := range e.Subs {
		e.Subs[i] = roomy(e.Subs[i])
	}
	e.Binds = roomyBinds(e.Binds)
	alts := append(append(make([]api.Alt, 0, len(e.Alts)+2), e.Alts...), other(v(spare)), other(v(spare)))
	e.Alts = alts[:len(e.Alts)]
	for i := range e.Alts {
		a := &e.Alts[i]
		a.Names = append(append(make([]string, 0, len(a.Names)+2), a.Names...), spare, spare)[:len(a.Names)]
		a.Body = roomy(a.Body)
	}
	return e
}

func roomyBinds(binds []api.Bind) []api.Bind {
	all := append(append(make([]api.Bind, 0, len(binds)+2), binds...), bind(spare, v(spare)), bind(spare, v(spare)))[:len(binds)]
	for i := range all {
		all[i].Expr = roomy(all[i].Expr)
	}
	return all
}

// whole is e with what stands beyond the length of its lists.
func whole(e api.Expr) api.Expr {
	e.Names = slices.Clone(e.Names[:cap(e.Names)])
	e.Subs = slices.Clone(e.Subs[:cap(e.Subs)])
	for i := range e.Subs {
		e.Subs[i] = whole(e.Subs[i])
	}
	e.Binds = slices.Clone(e.Binds[:cap(e.Binds)])
	for i := range e.Binds {
		e.Binds[i].Expr = whole(e.Binds[i].Expr)
	}
	e.Alts = slices.Clone(e.Alts[:cap(e.Alts)])
	for i := range e.Alts {
		e.Alts[i].Names = slices.Clone(e.Alts[i].Names[:cap(e.Alts[i].Names)])
		e.Alts[i].Body = whole(e.Alts[i].Body)
	}
	return e
}

// R2: what is handed in is left as it is, with all memory beyond the length of
// lists; what is done with one answer does not change another one.
func TestMemory(t *testing.T) {
	m := newMaker(7, api.Main, "a", "b", "c", "d")
	for range 3000 {
		body := roomy(m.expr(4))
		var binds []api.Bind
		for _, name := range m.names {
			binds = append(binds, bind(name, m.expr(4)))
		}
		all := let(body, roomyBinds(binds)...)
		p := api.Program{Cons: cons()[:3], Binds: all.Binds}
		before := whole(all)
		live, reached := occur.Live(body, all.Binds...), occur.Reached(p)
		again, more := slices.Clone(live), slices.Clone(reached)
		for i := range live {
			live[i] = -1
		}
		for i := range reached {
			reached[i] = spare
		}
		if !slices.Equal(occur.Live(body, all.Binds...), again) || !slices.Equal(occur.Reached(p), more) {
			t.Fatalf("%s: other answers", say(all))
		}
		for _, name := range m.names {
			occur.Uses(all, name)
			occur.Once(body, name)
		}
		if !equal(before, whole(all)) || !slices.Equal(cons()[:3], p.Cons) {
			t.Fatalf("%s is changed", say(all))
		}
	}
}
