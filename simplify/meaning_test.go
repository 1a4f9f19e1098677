package simplify_test

import (
	"strconv"
	"strings"
	"testing"

	"teasel/api"
	"teasel/core"
	"teasel/desugar"
	"teasel/simplify"
)

const (
	fewSteps = 3000
	further  = 100 // times as many steps for what must come to an end
)

// wantMeaning holds that a program does the same behind some numbers of passes; it
// says how its run stands after so many steps.
func wantMeaning(t *testing.T, p api.Program, input string, steps int, passes ...int) int {
	t.Helper()
	if errno := core.Lint(p); errno != api.OK {
		t.Fatalf("%s: Lint: %v", sayProgram(p), errno)
	}
	before := run(p, input, steps)
	if before.End == api.Wrong {
		return before.End
	}
	for _, n := range passes {
		q, errno := simplify.Run(p, n)
		if lint := core.Lint(q); errno != api.OK || lint != api.OK || !equalPrograms(api.Program{Cons: q.Cons}, api.Program{Cons: p.Cons}) {
			t.Fatalf("%s: %v, Lint: %v, %v", sayProgram(p), errno, lint, q.Cons)
		}
		if !sameRun(p, q, before, input, steps) {
			t.Fatalf("%d passes of %s:\nit was %+v, but %+v for\n%s", n, sayProgram(p), before, run(q, input, further*steps), sayProgram(q))
		}
	}
	return before.End
}

// sameRun says whether q does what p does, which is before in so many steps.
func sameRun(p, q api.Program, before api.Outcome, input string, steps int) bool {
	if before.End != api.Running {
		return run(q, input, further*steps) == before
	}
	after := run(q, input, steps)
	if after.End != api.Running { // it takes fewer steps than before
		return run(p, input, further*steps) == after
	}
	return strings.HasPrefix(before.Out, after.Out) || strings.HasPrefix(after.Out, before.Out)
}

// What the expressions of a typed program are.
const (
	aNumber = iota
	aList
	aPair
	aFunction
	types
)

// typed makes random programs whose runs are never Wrong: some write, read, fail,
// or do not end.
type typed struct {
	*maker
}

// scope is the names of each type.
type scope [types][]string

func (known scope) and(kind int, name string) scope {
	known[kind] = with(known[kind], name)
	return known
}

func (m *typed) leaf(kind int, known scope) api.Expr {
	if names := known[kind]; len(names) > 0 && m.Intn(4) > 0 {
		return v(names[len(names)-1-m.Intn(min(len(names), 4))])
	}
	switch {
	case m.Intn(40) == 0:
		return raise()
	case kind == aList:
		return con("Nil")
	case kind == aPair:
		return pair(lit(1), m.leaf(aList, known))
	case kind == aFunction:
		x := m.fresh()
		return lam(x, m.leaf(aNumber, known.and(aNumber, x)))
	case m.Intn(4) == 0:
		return get()
	}
	return lit(m.Intn(4))
}

func (m *typed) value(kind, levels int, known scope) api.Expr {
	if levels <= 1 {
		return m.leaf(kind, known)
	}
	levels--
	of := func(kind int) api.Expr { return m.value(kind, levels, known) }
	switch m.Intn(14) {
	case 0, 1, 2:
		return m.let(kind, levels, known)
	case 3:
		x := m.fresh()
		return cas(of(aNumber), x, litAlt(m.Intn(3), of(kind)), other(m.value(kind, levels, known.and(aNumber, x))))
	case 4, 5:
		x, a, b := m.fresh(), m.fresh(), m.fresh()
		inside := known.and(aList, x)
		alts := []api.Alt{conAlt("Nil", "", m.value(kind, levels, inside)), conAlt("Cons", a+" "+b, m.value(kind, levels, inside.and(aNumber, a).and(aList, b)))}
		if m.Intn(3) == 0 {
			alts = []api.Alt{alts[m.Intn(2)], other(m.value(kind, levels, inside))}
		}
		return cas(of(aList), x, alts...)
	case 6, 7:
		x, a, b := m.fresh(), m.fresh(), m.fresh()
		return cas(of(aPair), x, conAlt("Pair", a+" "+b, m.value(kind, levels, known.and(aPair, x).and(aNumber, a).and(aList, b))))
	case 8: // a byte is written ahead
		return cas(prim(api.Put, of(aNumber)), m.fresh(), other(of(kind)))
	case 9:
		x := m.fresh()
		return app(lam(x, m.value(kind, levels, known.and(aNumber, x))), of(aNumber))
	case 10:
		f, x := m.fresh(), m.fresh()
		return app(lam(f+" "+x, m.value(kind, levels, known.and(aFunction, f).and(aNumber, x))), of(aFunction), of(aNumber))
	}
	return m.own(kind, levels, known)
}

// own is a value by what only its type has.
func (m *typed) own(kind, levels int, known scope) api.Expr {
	of := func(kind int) api.Expr { return m.value(kind, levels, known) }
	switch kind {
	case aList:
		return con("Cons", of(aNumber), of(aList))
	case aPair:
		return pair(of(aNumber), of(aList))
	case aFunction:
		x, y := m.fresh(), m.fresh()
		if m.Intn(3) == 0 {
			return app(lam(y+" "+x, m.value(aNumber, levels, known.and(aNumber, x).and(aList, y))), of(aList))
		}
		return lam(x, m.value(aNumber, levels, known.and(aNumber, x)))
	}
	switch m.Intn(3) {
	case 0:
		x, op := m.fresh(), []int{api.Eq, api.Lt, api.Le}[m.Intn(3)]
		return cas(prim(op, of(aNumber), of(aNumber)), x, conAlt(api.True, "", of(aNumber)), conAlt(api.False, "", of(aNumber)))
	case 1:
		return app(of(aFunction), of(aNumber))
	}
	return prim(api.Add+m.Intn(api.Rem), of(aNumber), of(aNumber))
}

// let is a Let, some binds of which may use each other.
func (m *typed) let(kind, levels int, known scope) api.Expr {
	count := []int{1, 1, 1, 2, 3}[m.Intn(5)]
	inside := known
	var binds []api.Bind
	var kinds []int
	for range count {
		kinds = append(kinds, m.Intn(types))
		binds = append(binds, bind(m.fresh(), api.Expr{}))
		inside = inside.and(kinds[len(kinds)-1], binds[len(binds)-1].Name)
	}
	for i := range binds {
		if from := known; m.Intn(4) > 0 {
			binds[i].Expr = m.value(kinds[i], levels, from)
		} else {
			binds[i].Expr = m.value(kinds[i], levels, inside)
		}
	}
	return let(m.value(kind, levels, inside), binds...)
}

func (m *typed) program(tops, levels int) api.Program {
	m.count = 0
	var known scope
	kinds := make([]int, tops)
	binds := make([]api.Bind, tops)
	for i := range binds {
		kinds[i] = m.Intn(types)
		binds[i].Name = "M." + m.fresh()
		known = known.and(kinds[i], binds[i].Name)
	}
	for i := range binds {
		binds[i].Expr = m.value(kinds[i], 1+m.Intn(levels), known)
	}
	binds = append(binds, bind(api.Main, lam("s", con(api.Box, m.value(aNumber, levels, known)))))
	m.Shuffle(len(binds), func(i, j int) { binds[i], binds[j] = binds[j], binds[i] })
	return program(binds...)
}

// P14.3: random programs of types.
func TestRandomMeaning(t *testing.T) {
	m := &typed{newMaker(2)}
	ends := map[int]int{}
	writes, changed := 0, 0
	for i := range 5000 {
		p := m.program(m.Intn(4), 2+i%6)
		ends[wantMeaning(t, p, "abc", fewSteps, 1, 2, 3, i%21)]++
		if run(p, "abc", fewSteps).Out != "" {
			writes++
		}
		if q := pass(t, p); !equalPrograms(p, q) {
			changed++
		}
	}
	t.Log(ends, writes, changed)
	if ends[api.Done] < 1000 || ends[api.Failed] < 500 || ends[api.Running] < 200 || len(ends) > 3 || writes < 1000 || changed < 4000 {
		t.Error(ends, writes, changed)
	}
}

// P14.3: what is written, read, fails and does not end, before and behind any number
// of passes.
func TestMeaning(t *testing.T) {
	a, b, f, n, x := v("a"), v("b"), v("f"), v("n"), v("x")
	out := func(byte int, e api.Expr) api.Expr {
		return cas(prim(api.Put, lit(byte)), "w"+strconv.Itoa(byte), other(e))
	}
	loop := let1("l", v("l"), v("l"))
	endless := let1("f", lam("n", cas(prim(api.Put, n), "w", other(app(f, add(n, lit(1)))))), app(f, lit('a')))
	count := func(e api.Expr) api.Expr {
		return let1("f", lam("n", cas(n, "m", litAlt(0, e), other(out('n', app(f, add(v("m"), lit(-1))))))), app(f, lit(3)))
	}
	for _, c := range []struct {
		e    api.Expr
		want api.Outcome
	}{
		{lit(3), api.Outcome{End: api.Done, Code: 3}},
		// as often as before, and no earlier
		{let1("a", out('a', lit(2)), add(a, a)), api.Outcome{Out: "a", End: api.Done, Code: 4}},
		{let1("a", out('a', lit(2)), out('b', a)), api.Outcome{Out: "ba", End: api.Done, Code: 2}},
		{let1("a", out('a', lit(2)), lit(1)), api.Outcome{End: api.Done, Code: 1}},
		{let1("a", out('a', lit(2)), let1("f", lam("n", add(n, a)), add(app(f, lit(1)), app(f, lit(2))))), api.Outcome{Out: "a", End: api.Done, Code: 7}},
		{app(lam("a b", out('c', add(b, a))), out('a', lit(1)), out('b', lit(2))), api.Outcome{Out: "cba", End: api.Done, Code: 3}},
		{cas(pair(out('a', lit(1)), out('b', lit(2))), "x", conAlt("Pair", "a b", out('c', add(b, b)))), api.Outcome{Out: "cb", End: api.Done, Code: 4}},
		{cas(out('a', lit(1)), "x", other(out('b', x))), api.Outcome{Out: "ab", End: api.Done, Code: 1}},
		{add(out('a', lit(1)), cas(get(), "x", other(out('b', x)))), api.Outcome{Out: "ab", End: api.Done, Code: 1 + 'p'}},
		{add(prim(api.Mul, get(), lit(1000)), get()), api.Outcome{End: api.Done, Code: 'p'*1000 + 'q'}},
		{let(add(add(a, b), add(a, b)), bind("a", get()), bind("b", get())), api.Outcome{End: api.Done, Code: 2 * ('p' + 'q')}},
		{prim(api.Minus, let1("a", get(), add(a, prim(api.Mul, a, lit(0)))), add(get(), get())), api.Outcome{End: api.Done, Code: 'p' - 'q' + 1}},
		// Case of Case: each alternative is taken for what it was
		{cas(cas(get(), "y", litAlt('p', out('a', lit(1))), other(lit(2))), "x", litAlt(1, out('b', x)), other(lit(9))), api.Outcome{Out: "ab", End: api.Done, Code: 1}},
		{cas(cas(get(), "y", litAlt('q', con("Nil")), other(con("Cons", v("y"), con("Nil")))), "x", conAlt("Nil", "", lit(1)), conAlt("Cons", "a b", out('b', a))), api.Outcome{Out: "b", End: api.Done, Code: 'p'}},
		{cas(cas(get(), "y", litAlt('p', raise()), other(lit(1))), "x", litAlt(1, lit(2)), other(out('x', x))), api.Outcome{End: api.Failed}},
		{count(cas(cas(get(), "y", litAlt('p', lit(7)), other(lit(1))), "x", litAlt(7, add(x, x)), other(x))), api.Outcome{Out: "nnn", End: api.Done, Code: 14}},
		// failures, where they are needed
		{out('a', raise()), api.Outcome{Out: "a", End: api.Failed}},
		{app(out('a', raise()), out('b', lit(1))), api.Outcome{Out: "a", End: api.Failed}},
		{app(lam("n", lit(4)), raise()), api.Outcome{End: api.Done, Code: 4}},
		{prim(api.Quot, out('a', lit(1)), prim(api.Minus, lit(3), lit(3))), api.Outcome{Out: "a", End: api.Failed}},
		{prim(api.Rem, lit(1), lit(0)), api.Outcome{End: api.Failed}},
		{let1("a", prim(api.Rem, lit(1), lit(0)), lit(5)), api.Outcome{End: api.Done, Code: 5}},
		{let1("a", raise(), out('a', a)), api.Outcome{Out: "a", End: api.Failed}},
		{cas(raise(), "x", other(out('a', lit(1)))), api.Outcome{End: api.Failed}},
		{count(raise()), api.Outcome{Out: "nnn", End: api.Failed}},
		// what does not end
		{loop, api.Outcome{End: api.Running}},
		{out('a', loop), api.Outcome{Out: "a", End: api.Running}},
		{let(lit(1), loop.Binds...), api.Outcome{End: api.Done, Code: 1}},
		{let(a, bind("a", b), bind("b", a)), api.Outcome{End: api.Running}},
		{app(lam("a", lit(1)), endless), api.Outcome{End: api.Done, Code: 1}},
		{let1("f", lam("n", app(f, n)), app(f, lit(1))), api.Outcome{End: api.Running}},
		{count(loop), api.Outcome{Out: "nnn", End: api.Running}},
	} {
		p := program(bind(api.Main, lam("s", con(api.Box, c.e))))
		if got := run(p, "pq", fewSteps); got != c.want {
			t.Errorf("%s: got %+v, want %+v", say(c.e), got, c.want)
		}
		for passes := range 21 {
			wantMeaning(t, p, "pq", fewSteps, passes)
			if q, _ := simplify.Run(p, passes); run(q, "pq", fewSteps) != c.want {
				t.Errorf("%d passes of %s: got %+v, want %+v", passes, say(c.e), run(q, "pq", fewSteps), c.want)
			}
		}
	}
	wantMeaning(t, program(bind(api.Main, lam("s", con(api.Box, endless)))), "", fewSteps, 0, 1, 2, 3, 20)
	// names at the top that are each other, or main
	top := func(e api.Expr, binds ...api.Bind) {
		wantMeaning(t, program(append(binds, bind(api.Main, e))...), "pq", fewSteps, 1, 2, 3, 20)
	}
	top(lam("s", con(api.Box, v("M.a"))), bind("M.a", v("M.b")), bind("M.b", v("M.a")))
	top(lam("s", con(api.Box, v("M.a"))), bind("M.a", v("M.b")), bind("M.b", v("M.c")), bind("M.c", cas(prim(api.Put, get()), "w", other(lit(4)))))
	top(v("M.a"), bind("M.a", v("M.b")), bind("M.b", lam("s", con(api.Box, lit(4)))))
	top(v("M.a"), bind("M.a", v(api.Main)))
	top(lam("s", con(api.Box, add(v("M.a"), v("M.a")))), bind("M.a", cas(prim(api.Put, get()), "w", other(v("M.b")))), bind("M.b", add(lit(1), lit(2))))
}

// sources is programs in the language itself.
func sources() []string {
	return []string{
		"main = return 3",
		"main = putBytes (show [1, 2, 3]) >> return 4",
		`main = getByte >>= \c -> if c < 0 then return 0 else putByte c >> main >>= \n -> return (n + 1)`,
		"main = return (head [])",
		"main = do { c <- getByte; putByte (c + 1); d <- getByte; if c == d then return 1 else return (head (tail [d])) }\ntail (x:xs) = xs",
		"main = putBytes [104, 105] >> main",
		`main = putBytes (show (length (primes 20))) >> return (end (primes 20))
primes n = take n (sieve (iterate (+ 1) 2))
sieve (p:ps) = p : sieve (only (\n -> 0 < rest n p) ps)
rest n p = if n < p then n else rest (n - p) p
end [x] = x
end (x:xs) = end xs
only p [] = []
only p (x:xs) | p x = x : only p xs
              | True = only p xs`,
		`data Tree a = Leaf | Node { left :: Tree a, value :: a, right :: Tree a }
class Container f where { empty :: f a; insert :: Int -> f Int -> f Int; toList :: f a -> [a] }
instance Container Tree where
  empty = Leaf
  insert x Leaf = Node Leaf x Leaf
  insert x t | x <= value t = t { left = insert x (left t) }
             | True = t { right = insert x (right t) }
  toList Leaf = []
  toList (Node l x r) = toList l ++ [x] ++ toList r
fill [] = empty
fill (x:xs) = insert x (fill xs)
sorted Leaf = []
sorted t = toList t
main = putBytes (show (sorted (fill [3, 1, 4, 1, 5, 9, 2, 6]))) >> return (length (sorted (fill [2, 7])))`,
		`data State a = State (Int -> (a, Int))
run (State f) = f
instance Monad State where
  return x = State (\s -> (x, s))
  m >>= f = State (\s -> case run m s of (a, t) -> run (f a) t)
tick = State (\s -> (s, s + 1))
three = do { a <- tick; b <- tick; c <- tick; return [a, b, c] }
main = case run three 7 of (xs, n) -> putBytes (show xs) >> return n`,
		`even 0 = True
even n = odd (n - 1)
odd 0 = False
odd n = even (n - 1)
main = do
  c <- getByte
  if even c then putBytes (show (Just c)) else putBytes (show (c, [c]))
  main2 (c - 90) []
main2 n acc | n <= 0 = return (sum acc)
            | even n = main2 (half n) (half n : acc)
            | True = main2 (n - 1) (n : acc)
half n = go 0 where { go m | m + m == n = m; go m = go (m + 1) }`,
	}
}

// P14.1, P14.3: programs of the language.
func TestSources(t *testing.T) {
	ends := map[int]int{}
	for _, text := range sources() {
		p, diag := desugar.Front([]api.File{{Name: "m", Text: "module Main where\n" + text}})
		if diag != (api.Diag{}) {
			t.Errorf("%+v: %s", diag, text)
			continue
		}
		now := p
		for range 6 {
			want := refPass(now, map[string]int{})
			if got := pass(t, now); !equalPrograms(got, want) {
				t.Fatalf("%s:\ngot  %s\nwant %s", text, sayProgram(got), sayProgram(want))
			}
			now = want
		}
		before, after := core.Size(let(lit(1), p.Binds...)), core.Size(let(lit(1), now.Binds...))
		end := wantMeaning(t, p, "abc", 300000, 1, 2, 3, 4, 5, 10, 20)
		ends[end]++
		if end == api.Wrong || after >= before {
			t.Error(end, before, after, text)
		}
	}
	t.Log(ends)
}
