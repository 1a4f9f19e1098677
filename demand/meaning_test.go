package demand_test

import (
	"strconv"
	"strings"
	"testing"

	"teasel/api"
	"teasel/core"
	"teasel/demand"
	"teasel/desugar"
	"teasel/simplify"
)

const (
	fewSteps = 3000
	further  = 100 // times as many steps for what must come to an end
)

// wantMeaning holds that a program does the same behind Run, also done twice; it
// says how its run stands after so many steps.
func wantMeaning(t *testing.T, p api.Program, input string, steps int) int {
	t.Helper()
	if errno := core.Lint(p); errno != api.OK {
		t.Fatalf("%s: Lint: %v", sayProgram(p), errno)
	}
	before := run(p, input, steps)
	if before.end == api.Wrong {
		return before.end
	}
	q := p
	for range 2 {
		var errno api.Errno
		q, errno = demand.Run(q)
		if lint := core.Lint(q); errno != api.OK || lint != api.OK || !equalPrograms(api.Program{Cons: q.Cons}, api.Program{Cons: p.Cons}) {
			t.Fatalf("%s: %v, Lint: %v, %v", sayProgram(p), errno, lint, q.Cons)
		}
		if !sameRun(p, q, before, input, steps) {
			t.Fatalf("%s:\nit was %+v, but %+v for\n%s", sayProgram(p), before, run(q, input, further*steps), sayProgram(q))
		}
	}
	return before.end
}

// sameRun says whether q does what p does, which is before in so many steps.
func sameRun(p, q api.Program, before outcome, input string, steps int) bool {
	if before.end != api.Running {
		return run(q, input, further*steps) == before
	}
	after := run(q, input, steps)
	if after.end != api.Running { // it takes fewer steps than before
		return run(p, input, further*steps) == after
	}
	return strings.HasPrefix(before.done, after.done) || strings.HasPrefix(after.done, before.done)
}

// What the expressions of a typed program are.
const (
	aNumber = iota
	aList
	aPair
	aFunction
	types
)

// typed makes random programs whose runs are never Wrong: some write, read, fail,
// or do not end.
type typed struct {
	*maker
	calls []signature
}

// signature is a function at the top, with the types of its arguments.
type signature struct {
	name string
	args []int
	kind int
}

// scope is the names of each type.
type scope [types][]string

func (known scope) and(kind int, name string) scope {
	known[kind] = with(known[kind], name)
	return known
}

func (m *typed) leaf(kind int, known scope) api.Expr {
	if names := known[kind]; len(names) > 0 && m.Intn(4) > 0 {
		return v(names[len(names)-1-m.Intn(min(len(names), 4))])
	}
	switch {
	case m.Intn(40) == 0:
		return raise()
	case kind == aList:
		return con("Nil")
	case kind == aPair:
		return pair(lit(1), m.leaf(aList, known))
	case kind == aFunction:
		x := m.fresh()
		return lam(x, m.leaf(aNumber, known.and(aNumber, x)))
	case m.Intn(3) == 0:
		return get()
	}
	return lit(m.Intn(4))
}

func (m *typed) value(kind, levels int, known scope) api.Expr {
	if levels <= 1 {
		return m.leaf(kind, known)
	}
	levels--
	of := func(kind int) api.Expr { return m.value(kind, levels, known) }
	switch m.Intn(18) {
	case 0, 1, 2:
		return m.let(kind, levels, known)
	case 3:
		x := m.fresh()
		return cas(of(aNumber), x, litAlt(m.Intn(3), of(kind)), other(m.value(kind, levels, known.and(aNumber, x))))
	case 4, 5:
		x, a, b := m.fresh(), m.fresh(), m.fresh()
		inside := known.and(aList, x)
		alts := []api.Alt{conAlt("Nil", "", m.value(kind, levels, inside)), conAlt("Cons", a+" "+b, m.value(kind, levels, inside.and(aNumber, a).and(aList, b)))}
		if m.Intn(3) == 0 {
			alts = []api.Alt{alts[m.Intn(2)], other(m.value(kind, levels, inside))}
		}
		return cas(of(aList), x, alts...)
	case 6:
		x, a, b := m.fresh(), m.fresh(), m.fresh()
		return cas(of(aPair), x, conAlt("Pair", a+" "+b, m.value(kind, levels, known.and(aPair, x).and(aNumber, a).and(aList, b))))
	case 7: // a byte is written ahead
		return cas(prim(api.Put, of(aNumber)), m.fresh(), other(of(kind)))
	case 8:
		x := m.fresh()
		return app(lam(x, m.value(kind, levels, known.and(aNumber, x))), of(aNumber))
	case 9, 10, 11, 12, 13:
		for _, f := range m.calls {
			if f.kind == kind && m.Intn(2) == 0 {
				e := app(v(f.name))
				for _, arg := range f.args {
					e.Subs = append(e.Subs, of(arg))
				}
				return e
			}
		}
	}
	return m.own(kind, levels, known)
}

// own is a value by what only its type has.
func (m *typed) own(kind, levels int, known scope) api.Expr {
	of := func(kind int) api.Expr { return m.value(kind, levels, known) }
	switch kind {
	case aList:
		return con("Cons", of(aNumber), of(aList))
	case aPair:
		return pair(of(aNumber), of(aList))
	case aFunction:
		x := m.fresh()
		return lam(x, m.value(aNumber, levels, known.and(aNumber, x)))
	}
	switch m.Intn(3) {
	case 0:
		x, op := m.fresh(), []int{api.Eq, api.Lt, api.Le}[m.Intn(3)]
		return cas(prim(op, of(aNumber), of(aNumber)), x, conAlt(api.True, "", of(aNumber)), conAlt(api.False, "", of(aNumber)))
	case 1:
		return app(of(aFunction), of(aNumber))
	}
	return prim(api.Add+m.Intn(api.Rem), of(aNumber), of(aNumber))
}

// let is a Let, some binds of which may use each other.
func (m *typed) let(kind, levels int, known scope) api.Expr {
	count := []int{1, 1, 1, 1, 2, 3}[m.Intn(6)]
	inside := known
	var binds []api.Bind
	var kinds []int
	for range count {
		kinds = append(kinds, m.Intn(types))
		binds = append(binds, bind(m.fresh(), api.Expr{}))
		inside = inside.and(kinds[len(kinds)-1], binds[len(binds)-1].Name)
	}
	for i := range binds {
		if from := known; m.Intn(6) > 0 {
			binds[i].Expr = m.value(kinds[i], levels, from)
		} else {
			binds[i].Expr = m.value(kinds[i], levels, inside)
		}
	}
	return let(m.value(kind, levels, inside), binds...)
}

// program has functions of several arguments at the top, and what is no Lam.
func (m *typed) program(tops, levels int) api.Program {
	m.count, m.calls = 0, nil
	var known scope
	for range tops {
		f := signature{name: "M." + m.fresh(), kind: m.Intn(types)}
		for range m.Intn(5) {
			f.args = append(f.args, []int{aNumber, aNumber, aNumber, aList, aPair, aFunction}[m.Intn(6)])
		}
		if m.calls = append(m.calls, f); len(f.args) == 0 {
			known = known.and(f.kind, f.name)
			m.calls = m.calls[:len(m.calls)-1]
		}
	}
	var binds []api.Bind
	for kind, names := range known {
		for _, name := range names {
			binds = append(binds, bind(name, m.value(kind, 1+m.Intn(levels), known)))
		}
	}
	for _, f := range m.calls {
		e := api.Expr{Kind: api.Lam}
		inside := known
		for _, kind := range f.args {
			e.Names = append(e.Names, m.fresh())
			inside = inside.and(kind, e.Names[len(e.Names)-1])
		}
		body := m.value(f.kind, 1+m.Intn(levels), inside)
		for i, kind := range f.args { // some are looked at ahead
			if m.Intn(2) == 0 {
				alts := []api.Alt{other(body)}
				if kind == aNumber && m.Intn(2) == 0 {
					alts = []api.Alt{litAlt(m.Intn(3), m.leaf(f.kind, inside)), other(body)}
				}
				body = cas(v(e.Names[i]), m.fresh(), alts...)
			}
		}
		e.Subs = []api.Expr{body}
		binds = append(binds, bind(f.name, e))
	}
	binds = append(binds, bind(api.Main, lam("s", con(api.Box, m.value(aNumber, levels, known)))))
	m.Shuffle(len(binds), func(i, j int) { binds[i], binds[j] = binds[j], binds[i] })
	return program(binds...)
}

// P15.3: random programs of types.
func TestRandomMeaning(t *testing.T) {
	m := &typed{maker: newMaker(3)}
	ends := map[int]int{}
	writes, differ := 0, 0
	for i := range 6000 {
		p := m.program(m.Intn(6), 2+i%6)
		ends[wantMeaning(t, p, "abc", fewSteps)]++
		if run(p, "abc", fewSteps).out != "" {
			writes++
		}
		if q := changed(t, p); !equalPrograms(p, q) {
			differ++
		}
	}
	t.Log(ends, writes, differ)
	if ends[api.Done] < 1000 || ends[api.Failed] < 500 || ends[api.Running] < 200 || len(ends) > 3 || writes < 1000 || differ < 2000 {
		t.Error(ends, writes, differ)
	}
}

// P15.3: what is written, read, fails and does not end, in its order.
func TestMeaning(t *testing.T) {
	a, b, f, n, s := v("a"), v("b"), v("f"), v("n"), v("s")
	out := func(byte int, e api.Expr) api.Expr {
		return cas(prim(api.Put, lit(byte)), "w"+strconv.Itoa(byte), other(e))
	}
	two := func(a, b api.Expr) api.Expr { return app(v("M.two"), a, b) } // the second argument first
	all := func(a, b, c api.Expr) api.Expr { return app(v("M.all"), a, b, c) }
	one := func(a, b api.Expr) api.Expr { return app(v("M.one"), a, b) }
	none := func(a, b api.Expr) api.Expr { return app(v("M.none"), a, b) }
	loop := let1("l", v("l"), v("l"))
	minus := func(a, b api.Expr) api.Expr { return prim(api.Minus, a, b) }
	done := func(out string, code int) api.Outcome { return api.Outcome{Out: out, End: api.Done, Code: code} }
	for _, c := range []struct {
		e    api.Expr
		want api.Outcome
	}{
		{lit(3), done("", 3)},
		// each argument where the function looks at it
		{two(out('a', lit(1)), out('b', lit(5))), done("ba", 4)},
		{all(out('a', lit(1)), out('b', lit(5)), out('c', lit(7))), done("abc", 13)},
		{one(out('a', lit(1)), out('b', lit(5))), done("b", 5)},
		{cas(none(out('a', lit(1)), raise()), "k", other(lit(2))), done("", 2)},
		{two(get(), get()), done("", 'p'-'q')},
		{all(get(), lit(1), prim(api.Mul, get(), lit(1000))), done("", 'p'+1+'q'*1000)},
		{two(out('a', lit(1)), two(out('b', lit(5)), out('c', lit(7)))), done("cba", 1)},
		{let1("a", out('a', lit(1)), let1("b", out('b', lit(2)), two(a, b))), done("ba", 1)},
		{let1("a", out('a', lit(1)), all(out('b', lit(2)), a, out('c', lit(3)))), done("bac", 6)},
		{let1("a", out('a', lit(1)), all(a, a, out('c', lit(3)))), done("ac", 5)},
		// as often as before, and no earlier
		{let1("a", out('a', lit(2)), add(a, a)), done("a", 4)},
		{let1("a", out('a', lit(2)), out('b', a)), done("ba", 2)},
		{let1("a", out('a', lit(2)), add(out('b', lit(1)), a)), done("ba", 3)},
		{let1("a", out('a', lit(2)), lit(1)), done("", 1)},
		{let1("a", out('a', lit(2)), cas(a, "k", litAlt(2, out('b', a)), other(lit(1)))), done("ab", 2)},
		{let1("a", get(), let1("b", get(), minus(b, a))), done("", 'p'-'q')},
		{let1("a", get(), let1("b", get(), minus(a, b))), done("", 'p'-'q')},
		{let1("a", get(), let1("b", add(a, lit(1)), add(prim(api.Mul, b, lit(1000)), get()))), done("", ('p'+1)*1000+'q')},
		{let1("f", lam("n", out('f', n)), let1("a", out('a', lit(1)), app(f, a))), done("fa", 1)},
		{let1("f", out('f', lam("n", out('g', n))), let1("a", out('a', lit(1)), app(f, a))), done("fga", 1)},
		{let1("a", out('a', lam("n m", add(n, v("m")))), app(a, out('b', lit(1)), out('c', lit(2)))), done("abc", 3)},
		// failures, where they are needed
		{two(raise(), out('b', lit(5))), api.Outcome{Out: "b", End: api.Failed}},
		{two(out('a', lit(1)), raise()), api.Outcome{End: api.Failed}},
		{two(out('a', lit(1)), prim(api.Quot, lit(1), lit(0))), api.Outcome{End: api.Failed}},
		{one(raise(), out('b', lit(5))), done("b", 5)},
		{let1("a", raise(), out('a', a)), api.Outcome{Out: "a", End: api.Failed}},
		{let1("a", raise(), add(prim(api.Rem, out('b', lit(1)), lit(0)), a)), api.Outcome{Out: "b", End: api.Failed}},
		{let1("a", raise(), let1("b", out('b', lit(1)), add(b, a))), api.Outcome{Out: "b", End: api.Failed}},
		{let1("a", raise(), let1("b", out('b', lit(1)), add(a, b))), api.Outcome{End: api.Failed}},
		// what does not end
		{two(loop, out('b', lit(5))), api.Outcome{Out: "b", End: api.Running}},
		{two(out('a', lit(1)), loop), api.Outcome{End: api.Running}},
		{one(loop, out('b', lit(5))), done("b", 5)},
		{let(lit(1), loop.Binds...), done("", 1)},
		{let1("a", app(v("M.loop"), out('a', lit(1)), lit(2)), add(a, lit(1))), api.Outcome{End: api.Running}},
		{app(v("M.loop"), raise(), out('b', lit(2))), api.Outcome{End: api.Running}},
		// functions that call themselves
		{app(v("M.sum"), out('a', lit(3)), out('b', lit(10))), done("ab", 16)},
		{app(v("M.sum"), lit(0), out('b', lit(10))), done("b", 10)},
		{app(v("M.sum"), lit(2), raise()), api.Outcome{End: api.Failed}},
		{app(v("M.until"), out('a', lit(2)), out('b', lit(9))), done("ab", 9)},
		{app(v("M.until"), lit(3), out('b', lit(9))), done("b", 9)},
		{add(s, lit(1)), api.Outcome{End: api.Wrong}},
	} {
		x, y := v("x"), v("y")
		p := program(append(functions()[1:4],
			bind("M.none", lam("n1 n2", con("Nil"))),
			bind("M.loop", lam("l1 l2", app(v("M.loop"), v("l1"), v("l2")))),
			bind("M.sum", lam("x y", cas(x, "k1", litAlt(0, y), other(app(v("M.sum"), minus(x, lit(1)), add(y, v("k1"))))))),
			bind("M.until", lam("i j", cas(prim(api.Lt, v("i"), v("j")), "k2", conAlt(api.False, "", v("j")), conAlt(api.True, "", app(v("M.until"), add(v("i"), lit(1)), v("j")))))),
			bind(api.Main, lam("s", con(api.Box, c.e))))...)
		p = renamedApart(p)
		q := changed(t, changed(t, p))
		if got := run(p, "pq", fewSteps).api(); got != c.want {
			t.Errorf("%s: got %+v, want %+v", say(c.e), got, c.want)
		} else if got := run(q, "pq", fewSteps).api(); got != c.want {
			t.Errorf("%s: got %+v, want %+v", sayProgram(q), got, c.want)
		}
		wantMeaning(t, p, "pq", fewSteps)
	}
}

// renamedApart has other names in main, where they are those of functions.
func renamedApart(p api.Program) api.Program {
	main := &p.Binds[len(p.Binds)-1].Expr
	*main = renamed(*main, func(name string) string {
		if len(name) == 1 {
			return name + "'"
		}
		return name
	})
	return p
}

// sources is programs in the language itself.
func sources() []string {
	return []string{
		"main = return 3",
		"main = putBytes (show [1, 2, 3]) >> return 4",
		`main = getByte >>= \c -> if c < 0 then return 0 else putByte c >> main >>= \n -> return (n + 1)`,
		"main = return (head [])",
		"main = do { c <- getByte; putByte (c + 1); d <- getByte; if c == d then return 1 else return (head (tail [d])) }\ntail (x:xs) = xs",
		"main = putBytes [104, 105] >> main",
		`main = putBytes (show (length (primes 20))) >> return (end (primes 20))
primes n = take n (sieve (iterate (+ 1) 2))
sieve (p:ps) = p : sieve (only (\n -> 0 < rest n p) ps)
rest n p = if n < p then n else rest (n - p) p
end [x] = x
end (x:xs) = end xs
only p [] = []
only p (x:xs) | p x = x : only p xs
              | True = only p xs`,
		`power b 0 acc = acc
power b n acc = power b (n - 1) (acc * b)
gcd a b = if a == b then a else if a < b then gcd a (b - a) else gcd (a - b) b
fib n = if n < 2 then n else fib (n - 1) + fib (n - 2)
main = do
  c <- getByte
  putBytes (show (gcd (c * 6) (c + c), power 2 10 1))
  return (fib (gcd 14 21))`,
		`even 0 = True
even n = odd (n - 1)
odd 0 = False
odd n = even (n - 1)
main = do
  c <- getByte
  if even c then putBytes (show (Just c)) else putBytes (show (c, [c]))
  main2 (c - 90) []
main2 n acc | n <= 0 = return (sum acc)
            | even n = main2 (half n) (half n : acc)
            | True = main2 (n - 1) (n : acc)
half n = go 0 where { go m | m + m == n = m; go m = go (m + 1) }`,
	}
}

// P15.1, P15.2, P15.3: programs of the language, as they are and simplified.
func TestSources(t *testing.T) {
	counts := map[string]int{}
	for _, text := range sources() {
		p, diag := desugar.Front([]api.File{{Name: "m", Text: "module Main where\n" + text}})
		if diag != (api.Diag{}) {
			t.Errorf("%+v: %s", diag, text)
			continue
		}
		for _, passes := range []int{0, 1, 4, 20} {
			q, _ := simplify.Run(p, passes)
			orders, _ := refOrders(q)
			wantOrders(t, q, orders...)
			if got, want := changed(t, q), refRun(q, counts); !equalPrograms(got, want) {
				t.Fatalf("%s:\ngot  %s\nwant %s", text, sayProgram(got), sayProgram(want))
			}
			if end := wantMeaning(t, q, "abc", 300000); end == api.Wrong {
				t.Error(text)
			}
		}
	}
	t.Log(counts)
	if counts["App 1"] < 10 {
		t.Error(counts)
	}
}
