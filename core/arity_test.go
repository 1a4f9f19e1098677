package core_test

import (
	"math"
	"strconv"
	"testing"

	"teasel/api"
)

// some is as many expressions.
func some(count int) []api.Expr {
	var all []api.Expr
	for i := range count {
		all = append(all, lit(i))
	}
	return all
}

// P10.1, 6: each arity.
func TestArity(t *testing.T) {
	wantLint(t, "a Lam without Names", api.ErrArity, answering(lam("", lit(1))))
	wantLint(t, "a Let without Binds", api.ErrArity, answering(let(lit(1))))
	for count := range 4 {
		want := api.ErrArity
		if count >= 2 {
			want = api.OK
		}
		wantLint(t, "an App of "+strconv.Itoa(count), want, answering(app(some(count)...)))
	}
	for op := api.Add; op <= api.Raise; op++ {
		for count := range 5 {
			want := api.ErrArity
			if count == map[int]int{api.Put: 1, api.Get: 0, api.Raise: 0, api.Add: 2, api.Minus: 2, api.Mul: 2, api.Quot: 2, api.Rem: 2, api.Eq: 2, api.Lt: 2, api.Le: 2}[op] {
				want = api.OK
			}
			wantLint(t, "op "+strconv.Itoa(op)+" of "+strconv.Itoa(count), want, answering(prim(op, some(count)...)))
		}
	}
	for _, c := range append(more(), api.Cons{Name: "X", Arity: -1}, api.Cons{Name: "nil", Arity: -1}, api.Cons{Name: "", Arity: -1}, api.Cons{Name: "s", Arity: -1}) {
		for count := range 4 {
			want := api.ErrArity
			if count == c.Arity {
				want = api.OK
			}
			what := c.Name + " of " + strconv.Itoa(count)
			wantLint(t, what, want, answering(con(c.Name, some(count)...)))
			names := []string{"", "a", "a b", "a b c"}[count]
			wantLint(t, "an alternative "+what, want, answering(cas(lit(1), "y", conAlt(c.Name, names, lit(1)))))
			wantLint(t, "an alternative ahead "+what, want, answering(cas(lit(1), "y", conAlt(c.Name, names, lit(1)), other(lit(2)))))
		}
	}
	p := program(bind("q", con("C", some(100)...)))
	p.Cons = append(p.Cons, api.Cons{Name: "C", Arity: 100, Family: 1})
	wantLint(t, "100 fields", api.OK, p)
	p.Binds[1].Expr.Subs = some(99)
	wantLint(t, "99 of 100 fields", api.ErrArity, p)
	for _, e := range within(app(lit(1))) {
		wantLint(t, say(e), api.ErrArity, answering(e))
	}
	wantLint(t, "in another Bind", api.ErrArity, program(bind("q", lit(1)), bind("r", let(lit(1)))))
}

// P10.1, 7: which alternatives may stand together.
func TestAlts(t *testing.T) {
	nil0, cons, pair := conAlt("Nil", "", lit(1)), conAlt("Cons", "a b", lit(1)), conAlt("Pair", "c d", lit(1))
	red, green, blue := conAlt("R", "", lit(1)), conAlt("G", "e", lit(1)), conAlt("B", "f g", lit(1))
	one, two, none := litAlt(1, lit(1)), litAlt(2, lit(1)), other(lit(1))
	for i, alts := range [][]api.Alt{
		{none}, {one}, {one, two}, {two, one, none}, {nil0}, {cons}, {nil0, cons}, {cons, nil0}, {cons, nil0, none}, {pair}, {pair, none}, {one, none},
		{red, green, blue}, {blue, red, none}, {litAlt(math.MinInt, lit(1)), litAlt(math.MaxInt, lit(1)), litAlt(0, lit(1)), litAlt(-1, lit(1)), none},
		{nil0, conAlt(api.True, "", lit(1))}, {conAlt(api.Unit, "", lit(1)), pair, conAlt(api.Box, "u", lit(1))},
	} {
		wantLint(t, "right ones "+strconv.Itoa(i), api.OK, answering(cas(lit(1), "y", alts...)))
	}
	for i, alts := range [][]api.Alt{
		{}, {none, none}, {none, one}, {none, nil0}, {one, none, two}, {none, one, none}, {one, none, none}, {nil0, none, cons},
		{one, one}, {one, two, one}, {one, one, none}, {one, two, two, none}, {litAlt(0, lit(1)), litAlt(0, lit(2))},
		{nil0, nil0}, {red, green, red}, {nil0, nil0, none}, {red, red, blue},
		{one, nil0}, {nil0, one}, {one, nil0, none}, {nil0, one, none}, {one, two, red}, {red, green, one}, {nil0, one, cons}, {litAlt(0, lit(1)), nil0},
		{nil0, pair}, {pair, nil0}, {nil0, red}, {nil0, red, none}, {red, green, pair}, {nil0, cons, red}, {red, nil0, none}, {conAlt(api.Unit, "", lit(1)), conAlt(api.True, "", lit(1))},
	} {
		wantLint(t, "wrong ones "+strconv.Itoa(i), api.ErrAlts, answering(cas(lit(1), "y", alts...)))
		wantLint(t, "wrong ones in another Bind "+strconv.Itoa(i), api.ErrAlts, program(bind("q", lit(1)), bind("r", cas(lit(1), "y", alts...))))
		for _, e := range within(cas(lit(1), "y", alts...)) {
			wantLint(t, say(e), api.ErrAlts, answering(e))
		}
	}
}

// P10.1, 7: the alternatives of one Case are not held against another's.
func TestAltsOfTwo(t *testing.T) {
	numbers := cas(lit(1), "y", litAlt(1, lit(1)), other(lit(2)))
	list := cas(lit(1), "z", conAlt("Nil", "", lit(1)), conAlt("Cons", "a b", numbers))
	wantLint(t, "in an alternative", api.OK, answering(list))
	wantLint(t, "as the scrutinee", api.OK, answering(cas(numbers, "z", conAlt("R", "", lit(1)), other(cas(lit(3), "w", litAlt(1, lit(3)))))))
	wantLint(t, "beside", api.OK, answering(app(list, cas(lit(1), "w", conAlt("Nil", "", lit(1)), other(lit(1))))))
}

// P10.1, 8: there must be a Bind of main.
func TestNoMain(t *testing.T) {
	wantLint(t, "none", api.ErrNoMain, api.Program{Cons: own()})
	wantLint(t, "another one", api.ErrNoMain, api.Program{Cons: own(), Binds: []api.Bind{bind("main", lit(1))}})
	wantLint(t, "bound within", api.ErrNoMain, api.Program{Cons: own(), Binds: []api.Bind{bind("q", lam(api.Main, v(api.Main)))}})
	wantLint(t, "in a Let", api.ErrNoMain, api.Program{Cons: own(), Binds: []api.Bind{bind("q", let(v(api.Main), boxed(lit(1))))}})
	wantLint(t, "the last one", api.OK, api.Program{Cons: own(), Binds: []api.Bind{bind("q", v(api.Main)), bind("r", lit(1)), boxed(lit(1))}})
}

// P10.1: which error comes first, wherever in the program each of them is.
func TestFirstError(t *testing.T) {
	big := app(some(api.MaxNodes)...)
	deep := nested(api.MaxDepth, lit(1), func(e api.Expr) api.Expr { return lam("", e) })
	faults := []struct {
		e     api.Expr
		errno api.Errno
	}{
		{big, api.ErrBig}, {deep, api.ErrDeep}, {api.Expr{Kind: 9}, api.ErrShape}, {lit(1), api.ErrCons}, {lam("x x", lit(1)), api.ErrName},
		{v("nowhere"), api.ErrScope}, {app(lit(1)), api.ErrArity}, {cas(lit(1), "y", other(lit(1)), other(lit(2))), api.ErrAlts}, {lit(1), api.ErrNoMain},
	}
	build := func(i, j int, order []int) api.Program {
		p := api.Program{Cons: more()}
		for n, which := range order {
			p.Binds = append(p.Binds, bind("q"+strconv.Itoa(n), faults[which].e))
		}
		if i == 3 || j == 3 {
			p.Cons = append(p.Cons, api.Cons{Name: "Nil", Family: 1})
		}
		if i != 8 && j != 8 {
			p.Binds = append(p.Binds, boxed(lit(1)))
		}
		return p
	}
	for i, first := range faults {
		wantLint(t, "one fault", first.errno, build(i, i, []int{i}))
		for j := i + 1; j < len(faults); j++ {
			wantLint(t, strconv.Itoa(i)+" and "+strconv.Itoa(j), first.errno, build(i, j, []int{i, j}))
			wantLint(t, strconv.Itoa(j)+" and "+strconv.Itoa(i), first.errno, build(i, j, []int{j, i}))
		}
	}
}

// P10.1: which error comes first, if one expression has two.
func TestFirstErrorWithin(t *testing.T) {
	for what, c := range map[string]struct {
		e    api.Expr
		want api.Errno
	}{
		"a field, an arity":              {api.Expr{Kind: api.App, N: 1}, api.ErrShape},
		"a Sub, an empty binder":         {api.Expr{Kind: api.Lam, Names: []string{""}}, api.ErrShape},
		"two Subs, alternatives":         {api.Expr{Kind: api.Case, Subs: some(2), Alts: []api.Alt{other(lit(1)), other(lit(1))}}, api.ErrShape},
		"a field of an alternative":      {cas(v("x"), "", api.Alt{Kind: api.Default, N: 1, Body: lit(1)}, other(lit(1))), api.ErrShape},
		"no Binds, a scope":              {let(v("x")), api.ErrScope},
		"no Names, a scope":              {lam("", v("x")), api.ErrScope},
		"an empty binder, a scope":       {cas(v("x"), "", other(lit(1))), api.ErrName},
		"a binder twice, an arity":       {cas(lit(1), "y", conAlt("Nil", "a a", lit(1))), api.ErrName},
		"a scope, alternatives":          {cas(v("x"), "y"), api.ErrScope},
		"an arity, alternatives":         {cas(lit(1), "y", conAlt("Nil", "a", lit(1)), litAlt(1, lit(1))), api.ErrArity},
		"no constructor, alternatives":   {cas(lit(1), "y", conAlt("X", "", lit(1)), conAlt("X", "", lit(1))), api.ErrArity},
		"an op that is none, its number": {prim(12), api.ErrShape},
		"a scope, a constructor":         {con("X", v("x")), api.ErrScope},
	} {
		wantLint(t, what, c.want, answering(c.e))
	}
	p := answering(v("x"))
	p.Cons = p.Cons[1:]
	wantLint(t, "a scope, a constructor of Core's", api.ErrScope, p)
	p = answering(cas(lit(1), "y"))
	p.Cons = p.Cons[1:]
	wantLint(t, "a constructor of Core's, alternatives", api.ErrArity, p)
	p = answering(lam("x x", lit(1)))
	p.Cons[0].Family = 0
	wantLint(t, "a constructor, a name", api.ErrCons, p)
	p = answering(api.Expr{})
	p.Cons[0].Family = 0
	wantLint(t, "a shape, a constructor", api.ErrShape, p)
	p = api.Program{Cons: own()[1:], Binds: []api.Bind{bind("q", lit(1))}}
	wantLint(t, "a constructor of Core's, no main", api.ErrArity, p)
}
