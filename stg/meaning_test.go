package stg_test

import (
	"slices"
	"strconv"
	"strings"
	"testing"

	"teasel/api"
	"teasel/core"
	"teasel/demand"
	"teasel/desugar"
	"teasel/simplify"
	"teasel/stg"
)

const (
	fewSteps = 3000
	further  = 100 // times as many steps for what must come to an end
)

// onceIn is the names of the thunks without Update.
func onceIn(binds []api.SBind) []string {
	var names []string
	for _, b := range binds {
		if b.Kind == api.SThunk && !b.Update {
			names = append(names, b.Name)
		}
		for _, e := range b.Body {
			names = append(names, onceWithin(e)...)
		}
	}
	return names
}

func onceWithin(e api.Stg) []string {
	names := onceIn(e.Binds)
	for _, s := range e.Subs {
		names = append(names, onceWithin(s)...)
	}
	for _, a := range e.Alts {
		names = append(names, onceWithin(a.Body)...)
	}
	return names
}

// wantMeaning holds that a program does the same behind Of, and behind Core of that,
// with thunks without Update evaluated again each time, also done twice; it says how
// its run stands after so many steps, and how many such thunks there are.
func wantMeaning(t *testing.T, p api.Program, input string, steps int) (int, int) {
	t.Helper()
	before := run(p, input, steps)
	thunks := 0
	hold := func(what string, does func(steps int) outcome, says func() string) {
		t.Helper()
		if !sameRun(p, before, does, input, steps) {
			t.Fatalf("%s: %s:\nit was %+v, but %+v for\n%s", sayProgram(p), what, before, does(further*steps), says())
		}
	}
	q := p
	for i := range 2 {
		s := made(t, q)
		again := onceIn(s.Binds)
		if i == 0 {
			thunks = len(again)
		}
		hold("Of", func(steps int) outcome { return runStg(s, input, steps) }, func() string { return saySBinds(s.Binds) })
		q = stg.Core(s)
		if lint := core.Lint(q); lint != api.OK || !slices.Equal(q.Cons, p.Cons) {
			t.Fatalf("%s: Lint: %v, %v", sayProgram(p), lint, q.Cons)
		}
		hold("Core", func(steps int) outcome { return run(q, input, steps) }, func() string { return sayProgram(q) })
		hold("Core, again", func(steps int) outcome { return run(q, input, steps, again...) }, func() string { return sayProgram(q) })
	}
	return before.end, thunks
}

// sameRun says whether another run does what that of p does, which is before in so
// many steps.
func sameRun(p api.Program, before outcome, does func(steps int) outcome, input string, steps int) bool {
	if before.end != api.Running {
		return does(further*steps) == before
	}
	after := does(steps)
	if after.end != api.Running { // it takes fewer steps than before
		return run(p, input, further*steps) == after
	}
	return strings.HasPrefix(before.done, after.done) || strings.HasPrefix(after.done, before.done)
}

// What the expressions of a typed program are.
const (
	aNumber = iota
	aList
	aPair
	aFunction
	types
)

// typed makes random programs whose runs are never Wrong: some write, read, fail,
// or do not end.
type typed struct {
	*maker
	calls []signature
}

// signature is a function at the top, with the types of its arguments.
type signature struct {
	name string
	args []int
	kind int
}

// scope is the names of each type.
type scope [types][]string

func (known scope) and(kind int, name string) scope {
	known[kind] = with(known[kind], name)
	return known
}

func (m *typed) leaf(kind int, known scope) api.Expr {
	if names := known[kind]; len(names) > 0 && m.Intn(4) > 0 {
		return v(names[len(names)-1-m.Intn(min(len(names), 4))])
	}
	switch {
	case m.Intn(40) == 0:
		return raise()
	case kind == aList:
		return con("Nil")
	case kind == aPair:
		return pair(lit(1), m.leaf(aList, known))
	case kind == aFunction:
		x := m.fresh()
		return lam(x, m.leaf(aNumber, known.and(aNumber, x)))
	case m.Intn(3) == 0:
		return get()
	}
	return lit(m.Intn(4))
}

func (m *typed) value(kind, levels int, known scope) api.Expr {
	if levels <= 1 {
		return m.leaf(kind, known)
	}
	levels--
	of := func(kind int) api.Expr { return m.value(kind, levels, known) }
	switch m.Intn(18) {
	case 0, 1, 2:
		return m.let(kind, levels, known)
	case 3:
		x := m.fresh()
		return cas(of(aNumber), x, litAlt(m.Intn(3), of(kind)), other(m.value(kind, levels, known.and(aNumber, x))))
	case 4, 5:
		x, a, b := m.fresh(), m.fresh(), m.fresh()
		inside := known.and(aList, x)
		alts := []api.Alt{conAlt("Nil", "", m.value(kind, levels, inside)), conAlt("Cons", a+" "+b, m.value(kind, levels, inside.and(aNumber, a).and(aList, b)))}
		if m.Intn(3) == 0 {
			alts = []api.Alt{alts[m.Intn(2)], other(m.value(kind, levels, inside))}
		}
		return cas(of(aList), x, alts...)
	case 6:
		x, a, b := m.fresh(), m.fresh(), m.fresh()
		return cas(of(aPair), x, conAlt("Pair", a+" "+b, m.value(kind, levels, known.and(aPair, x).and(aNumber, a).and(aList, b))))
	case 7: // a byte is written ahead
		return cas(prim(api.Put, of(aNumber)), m.fresh(), other(of(kind)))
	case 8:
		x := m.fresh()
		return app(lam(x, m.value(kind, levels, known.and(aNumber, x))), of(aNumber))
	case 9, 10, 11, 12, 13:
		for _, f := range m.calls {
			if f.kind == kind && m.Intn(2) == 0 {
				e := app(v(f.name))
				for _, arg := range f.args {
					e.Subs = append(e.Subs, of(arg))
				}
				return e
			}
		}
	}
	return m.own(kind, levels, known)
}

// own is a value by what only its type has.
func (m *typed) own(kind, levels int, known scope) api.Expr {
	of := func(kind int) api.Expr { return m.value(kind, levels, known) }
	switch kind {
	case aList:
		return con("Cons", of(aNumber), of(aList))
	case aPair:
		return pair(of(aNumber), of(aList))
	case aFunction:
		x := m.fresh()
		return lam(x, m.value(aNumber, levels, known.and(aNumber, x)))
	}
	switch m.Intn(3) {
	case 0:
		x, op := m.fresh(), []int{api.Eq, api.Lt, api.Le}[m.Intn(3)]
		return cas(prim(op, of(aNumber), of(aNumber)), x, conAlt(api.True, "", of(aNumber)), conAlt(api.False, "", of(aNumber)))
	case 1:
		return app(of(aFunction), of(aNumber))
	}
	return prim(api.Add+m.Intn(api.Rem), of(aNumber), of(aNumber))
}

// let is a Let, some binds of which may use each other.
func (m *typed) let(kind, levels int, known scope) api.Expr {
	count := []int{1, 1, 1, 1, 2, 3}[m.Intn(6)]
	inside := known
	var binds []api.Bind
	var kinds []int
	for range count {
		kinds = append(kinds, m.Intn(types))
		binds = append(binds, bind(m.fresh(), api.Expr{}))
		inside = inside.and(kinds[len(kinds)-1], binds[len(binds)-1].Name)
	}
	for i := range binds {
		if from := known; m.Intn(6) > 0 {
			binds[i].Expr = m.value(kinds[i], levels, from)
		} else {
			binds[i].Expr = m.value(kinds[i], levels, inside)
		}
	}
	return let(m.value(kind, levels, inside), binds...)
}

// program has functions of several arguments at the top, and what is no Lam.
func (m *typed) program(tops, levels int) api.Program {
	m.count, m.calls = 0, nil
	var known scope
	for range tops {
		f := signature{name: "M." + m.fresh(), kind: m.Intn(types)}
		for range m.Intn(5) {
			f.args = append(f.args, []int{aNumber, aNumber, aNumber, aList, aPair, aFunction}[m.Intn(6)])
		}
		if m.calls = append(m.calls, f); len(f.args) == 0 {
			known = known.and(f.kind, f.name)
			m.calls = m.calls[:len(m.calls)-1]
		}
	}
	var binds []api.Bind
	for kind, names := range known {
		for _, name := range names {
			binds = append(binds, bind(name, m.value(kind, 1+m.Intn(levels), known)))
		}
	}
	for _, f := range m.calls {
		e := api.Expr{Kind: api.Lam}
		inside := known
		for _, kind := range f.args {
			e.Names = append(e.Names, m.fresh())
			inside = inside.and(kind, e.Names[len(e.Names)-1])
		}
		body := m.value(f.kind, 1+m.Intn(levels), inside)
		for i, kind := range f.args { // some are looked at ahead
			if m.Intn(2) == 0 {
				alts := []api.Alt{other(body)}
				if kind == aNumber && m.Intn(2) == 0 {
					alts = []api.Alt{litAlt(m.Intn(3), m.leaf(f.kind, inside)), other(body)}
				}
				body = cas(v(e.Names[i]), m.fresh(), alts...)
			}
		}
		e.Subs = []api.Expr{body}
		binds = append(binds, bind(f.name, e))
	}
	binds = append(binds, bind(api.Main, lam("s", con(api.Box, m.value(aNumber, levels, known)))))
	m.Shuffle(len(binds), func(i, j int) { binds[i], binds[j] = binds[j], binds[i] })
	return program(binds...)
}

// P16.4: random programs of types.
func TestRandomMeaning(t *testing.T) {
	m := &typed{maker: newMaker(4)}
	ends := map[int]int{}
	writes, once := 0, 0
	for i := range 2000 {
		p := m.program(m.Intn(6), 2+i%5)
		end, thunks := wantMeaning(t, p, "abc", fewSteps)
		ends[end]++
		once += thunks
		if run(p, "abc", fewSteps).out != "" {
			writes++
		}
	}
	t.Log(ends, writes, once)
	if ends[api.Done] < 500 || ends[api.Failed] < 200 || ends[api.Running] < 80 || len(ends) > 3 || writes < 300 || once < 300 {
		t.Error(ends, writes, once)
	}
}

// P16.4: any random programs, most runs of which are Wrong.
func TestRandomWrong(t *testing.T) {
	m := newMaker(5)
	ends := map[int]int{}
	for i := range 2000 {
		end, _ := wantMeaning(t, m.program(m.Intn(6), 2+i%5), "abc", fewSteps)
		ends[end]++
	}
	t.Log(ends)
	if ends[api.Wrong] < 500 || ends[api.Failed] < 20 || ends[api.Running] < 50 {
		t.Error(ends)
	}
}

// P16.4: what is written, read, fails and does not end, in its order.
func TestMeaning(t *testing.T) {
	f, n, s, x, y := v("f"), v("n"), v("s"), v("x"), v("y")
	out := func(byte int, e api.Expr) api.Expr {
		return cas(prim(api.Put, lit(byte)), "w"+strconv.Itoa(byte), other(e))
	}
	two := func(a, b api.Expr) api.Expr { return app(v("M.two"), a, b) } // the second argument first
	one := func(a, b api.Expr) api.Expr { return app(v("M.one"), a, b) }
	loop := let1("l", v("l"), v("l"))
	minus := func(a, b api.Expr) api.Expr { return prim(api.Minus, a, b) }
	done := func(out string, code int) api.Outcome { return api.Outcome{Out: out, End: api.Done, Code: code} }
	failed := func(out string) api.Outcome { return api.Outcome{Out: out, End: api.Failed} }
	running := func(out string) api.Outcome { return api.Outcome{Out: out, End: api.Running} }
	wrong := func(out string) api.Outcome { return api.Outcome{Out: out, End: api.Wrong} }
	for _, c := range []struct {
		e    api.Expr
		want api.Outcome
	}{
		{lit(3), done("", 3)},
		{app(lam("n", n), lit(3)), done("", 3)},
		{app(lam("n m", minus(n, v("m"))), get(), get()), done("", 'p'-'q')},
		{app(app(lam("n m", minus(v("m"), n)), get()), get()), done("", 'p'-'q')},
		// the function ahead of what it does with its arguments
		{app(out('f', lam("n", out('g', n))), out('a', lit(1))), done("fga", 1)},
		{app(out('f', lam("n m", out('g', v("m")))), out('a', lit(1)), out('b', lit(2))), done("fgb", 2)},
		{app(out('f', raise()), out('a', lit(1))), failed("f")},
		{app(loop, out('a', lit(1))), running("")},
		// arguments when they are needed, and once
		{two(out('a', lit(1)), out('b', lit(5))), done("ba", 4)},
		{one(out('a', lit(1)), out('b', lit(5))), done("b", 5)},
		{one(raise(), out('b', lit(5))), done("b", 5)},
		{one(loop, lit(5)), done("", 5)},
		{two(raise(), out('b', lit(5))), failed("b")},
		{app(lam("n", add(n, n)), out('a', lit(4))), done("a", 8)},
		{app(lam("n", add(n, n)), get()), done("", 2*'p')},
		{app(lam("n", app(lam("i", add(v("i"), n)), n)), out('a', lit(4))), done("a", 8)},
		// fields likewise
		{cas(pair(out('a', lit(1)), out('b', lit(2))), "k", conAlt("Pair", "i j", minus(v("j"), v("i")))), done("ba", 1)},
		{cas(pair(raise(), out('b', lit(2))), "k", conAlt("Pair", "i j", add(v("j"), v("j")))), done("b", 4)},
		{cas(pair(out('a', pair(get(), get())), lit(1)), "k", conAlt("Pair", "i j", cas(v("i"), "h", conAlt("Pair", "p q", minus(v("q"), v("p")))))), done("a", 'p'-'q')},
		{let1("x", con("Cons", out('a', lit(7)), x), cas(x, "k", conAlt("Cons", "h r", cas(v("r"), "i", conAlt("Cons", "p q", add(v("p"), v("h"))))))), done("a", 14)},
		// Prims: the first argument first
		{minus(get(), get()), done("", 'p'-'q')},
		{minus(out('a', lit(3)), out('b', lit(5))), done("ab", -2)},
		{prim(api.Quot, out('a', lit(3)), out('b', lit(0))), failed("ab")},
		{prim(api.Rem, raise(), out('b', lit(0))), failed("")},
		{prim(api.Rem, out('a', lit(0)), raise()), failed("a")},
		{cas(prim(api.Put, out('a', lit(256+98))), "k", conAlt(api.Unit, "", lit(1))), done("ab", 1)},
		{cas(prim(api.Le, get(), get()), "k", conAlt(api.True, "", lit(1)), conAlt(api.False, "", lit(2))), done("", 1)},
		{prim(api.Mul, add(get(), get()), minus(get(), get())), done("", 0)},
		// thunks of Lets, with Update and without
		{let1("x", out('a', lit(2)), x), done("a", 2)},
		{let1("x", out('a', lit(2)), add(x, x)), done("a", 4)},
		{let1("x", out('a', lit(2)), out('b', x)), done("ba", 2)},
		{let1("x", out('a', lit(2)), lit(1)), done("", 1)},
		{let1("x", raise(), lit(1)), done("", 1)},
		{let1("x", raise(), out('b', x)), failed("b")},
		{let1("x", get(), cas(x, "y", other(add(y, y)))), done("", 2*'p')},
		{let1("x", out('a', lit(3)), cas(lit(1), "y", litAlt(1, out('b', x)), other(lit(2)))), done("ba", 3)},
		{let1("x", out('a', lam("n", out('b', n))), add(app(x, lit(1)), lit(1))), done("ab", 2)},
		{let1("x", out('a', lam("n", out('b', n))), add(app(x, lit(1)), app(x, lit(2)))), done("abb", 3)},
		{let1("x", out('a', lit(3)), app(lam("n", add(n, n)), x)), done("a", 6)},
		{let1("x", out('a', lit(3)), app(lam("n", add(app(n, lit(1)), app(n, lit(2)))), lam("i", x))), done("a", 6)},
		{let1("x", get(), let1("y", x, add(y, y))), done("", 2*'p')},
		{let(minus(x, y), bind("y", out('a', add(x, lit(1)))), bind("x", out('b', lit(4)))), done("ba", -1)},
		{app(lam("n", add(app(n, lit(1)), app(n, lit(2)))), lam("i", let1("x", out('a', lit(3)), add(x, v("i"))))), done("aa", 9)},
		{loop, running("")},
		{let(add(x, lit(1)), bind("x", y), bind("y", x)), running("")},
		{out('a', let1("x", add(x, lit(1)), out('b', x))), running("ab")},
		// functions that call themselves
		{app(v("M.sum"), out('a', lit(3)), out('b', lit(10))), done("ab", 16)},
		{app(v("M.sum"), lit(2), raise()), failed("")},
		{let1("f", lam("n", cas(n, "k", litAlt(0, lit(5)), other(out('x', app(f, minus(n, lit(1))))))), app(f, lit(3))), done("xxx", 5)},
		{app(v("M.loop"), raise()), running("")},
		{app(v("M.write"), lit('a')), running("abcdef")},
		{add(v("M.value"), v("M.value")), done("", 2*'p')},
		{cas(v("M.list"), "k", conAlt("Cons", "h r", cas(v("M.list"), "j", conAlt("Cons", "p q", add(v("h"), v("p")))))), done("c", 2)},
		// what is Wrong, and what is done ahead of that
		{add(s, lit(1)), wrong("")},
		{add(s, out('a', lit(1))), wrong("a")},
		{app(out('a', lit(1)), out('b', lit(1))), wrong("a")},
		{app(con("Nil"), lit(1)), wrong("")},
		{cas(out('a', lit(1)), "k", litAlt(2, out('b', lit(1)))), wrong("a")},
		{cas(s, "k", litAlt(2, lit(1)), other(lit(2))), wrong("")},
		{cas(con("Nil"), "k", conAlt(api.False, "", lit(1)), other(lit(2))), wrong("")},
		{prim(api.Put, lam("n", n)), wrong("")},
		{out('a', s), wrong("a")},
		{con("Nil"), wrong("")},
	} {
		p := program(
			bind("M.one", lam("o1 o2", v("o2"))),
			bind("M.two", lam("w1 w2", minus(v("w2"), v("w1")))),
			bind("M.loop", lam("l1", app(v("M.loop"), v("l1")))),
			bind("M.write", lam("l2", cas(prim(api.Put, v("l2")), "l3", other(app(v("M.write"), add(v("l2"), lit(1))))))),
			bind("M.sum", lam("m1 m2", cas(v("m1"), "k1", litAlt(0, v("m2")), other(app(v("M.sum"), minus(v("m1"), lit(1)), add(v("m2"), v("k1"))))))),
			bind("M.value", get()),
			bind("M.list", con("Cons", out('c', lit(1)), app(v("M.one"), lit(1), v("M.list")))),
			bind(api.Main, lam("s", con(api.Box, c.e))))
		for _, steps := range []int{fewSteps, 20, 60, 100} {
			wantMeaning(t, p, "pq", steps)
		}
		got := run(p, "pq", fewSteps).api()
		if got.End == api.Running && strings.HasPrefix(got.Out, c.want.Out) {
			got.Out = c.want.Out
		}
		if got != c.want {
			t.Errorf("%s: got %+v, want %+v", say(c.e), got, c.want)
		}
	}
}

// P16.4: mains that are no functions, and what else a run begins with.
func TestMeaningOfMain(t *testing.T) {
	for _, c := range []struct {
		e   api.Expr
		end int
	}{
		{lam("s", box(lit(3))), api.Done}, {lam("s", box(box(lit(3)))), api.Wrong}, {lam("s r", box(lit(3))), api.Wrong}, {lit(3), api.Wrong},
		{box(lit(3)), api.Wrong}, {let1("x", lam("s", box(get())), v("x")), api.Done}, {v("M.main"), api.Done}, {v(api.Main), api.Running},
		{get(), api.Wrong}, {raise(), api.Failed}, {lam("s", v("s")), api.Wrong}, {lam("s", raise()), api.Failed}, {lam("s", box(raise())), api.Failed},
		{app(lam("x y", box(v("x"))), lit(5)), api.Done}, {cas(get(), "x", other(lam("s", box(v("x"))))), api.Done},
	} {
		p := program(bind(api.Main, c.e), bind("M.main", lam("q", box(lit(1)))))
		if end, _ := wantMeaning(t, p, "x", fewSteps); end != c.end {
			t.Errorf("%s: %d, want %d", say(c.e), end, c.end)
		}
	}
}

// sources is programs in the language itself.
func sources() []string {
	return []string{
		"main = return 3",
		"main = putBytes (show [1, 2, 3]) >> return 4",
		`main = getByte >>= \c -> if c < 0 then return 0 else putByte c >> main >>= \n -> return (n + 1)`,
		"main = return (head [])",
		"main = do { c <- getByte; putByte (c + 1); d <- getByte; if c == d then return 1 else return (head (tail [d])) }\ntail (x:xs) = xs",
		"main = putBytes [104, 105] >> main",
		`f n = let m = n * n in case m of { 4 -> 1; k -> if k < 9 then n else k + m }
g n = let m = quot 12 n in case n of { 0 -> 7; k -> case m of { 3 -> n; j -> j } }
main = getByte >>= \c -> putBytes (show (map f [1, 2, 3], map g [0, 3, 4])) >> return (f c)`,
		`main = putBytes (show (length (primes 20))) >> return (end (primes 20))
primes n = take n (sieve (iterate (+ 1) 2))
sieve (p:ps) = p : sieve (only (\n -> 0 < rest n p) ps)
rest n p = if n < p then n else rest (n - p) p
end [x] = x
end (x:xs) = end xs
only p [] = []
only p (x:xs) | p x = x : only p xs
              | True = only p xs`,
		`power b 0 acc = acc
power b n acc = power b (n - 1) (acc * b)
gcd a b = if a == b then a else if a < b then gcd a (b - a) else gcd (a - b) b
fib n = if n < 2 then n else fib (n - 1) + fib (n - 2)
main = do
  c <- getByte
  putBytes (show (gcd (c * 6) (c + c), power 2 10 1))
  return (fib (gcd 14 21))`,
		`even 0 = True
even n = odd (n - 1)
odd 0 = False
odd n = even (n - 1)
main = do
  c <- getByte
  if even c then putBytes (show (Just c)) else putBytes (show (c, [c]))
  main2 (c - 90) []
main2 n acc | n <= 0 = return (sum acc)
            | even n = main2 (half n) (half n : acc)
            | True = main2 (n - 1) (n : acc)
half n = go 0 where { go m | m + m == n = m; go m = go (m + 1) }`,
	}
}

// P16.1, P16.4: programs of the language, as they are, simplified, and with what is
// demanded evaluated early.
func TestSources(t *testing.T) {
	once := 0
	for _, text := range sources() {
		p, diag := desugar.Front([]api.File{{Name: "m", Text: "module Main where\n" + text}})
		if diag != (api.Diag{}) {
			t.Errorf("%+v: %s", diag, text)
			continue
		}
		for _, passes := range []int{0, 1, 20} {
			simple, _ := simplify.Run(p, passes)
			early, _ := demand.Run(simple)
			for _, q := range []api.Program{simple, early} {
				if got, want := made(t, q), refOf(q); !equalSPrograms(got, want) {
					t.Fatalf("%s:\ngot  %s\nwant %s", text, saySBinds(got.Binds), saySBinds(want.Binds))
				}
				end, thunks := wantMeaning(t, q, "abc", 300000)
				if end == api.Wrong {
					t.Error(text)
				}
				once += thunks
			}
		}
	}
	if t.Log(once); once == 0 {
		t.Error(once)
	}
}
