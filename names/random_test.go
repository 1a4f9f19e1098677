package names_test

import (
	"math/rand"
	"slices"
	"strconv"
	"strings"
	"testing"

	"teasel/api"
	"teasel/names"
	"teasel/parse"
)

// bases is programs that have some of everything.
func bases(t *testing.T) [][]api.Node {
	t.Helper()
	return [][]api.Node{
		trees(t, `module Main (main, T, C) where
import A
import B (f, (+), U)
infixl 6 !, :!
data T a = T a | (:!) { l :: a, m :: [T a] }
class C c where
  c :: c -> a
  (!) :: c -> c -> Bool
instance C Int where
  c x = x
  x ! y = True
instance (C a, C b) => C (a, b) where c (x, y) = [x, y]
(p, q@[r, _]) = (q, main)
main x (T y) = let { g z = x z; h@(i : _) = g h } in \x w -> case x w of
  z | g z -> v z
    | True -> y
    where v u = u
  x :! (T { }) -> x { l = c, m = 1 } + f
main _ ((:!) { l = l, m = k }) = (l +) (! k) (T :! r)`,
			`module A where
import Prim
data S s = S { n :: s } | R
class D d where d :: d
k x = if primAdd x k then "k" else n x
instance D S where d = d`,
			`module B where
import A (S, k)
f a b = k (S { n = f }) where { a = b; b = a }
a + b = f a b
data U u = U (S u) | V
instance E U
class E e`),
		trees(t, `module Prelude where
class Monad m where
  return :: a -> m a
  (>>=) :: m a -> (a -> m b) -> m b
instance Monad IO where { return = prim; x >>= y = x }
prim x = do { y <- x; let { z = y; (v, w) = z }; y; x@(y, _) <- v w; x y z }
f = \x -> do { x }`,
			`module A (g, (<>), Q) where
g x = do
  x <- f x
  let y = x
      g y = x y
  g y <> return x
a <> b | a = b | b = a where { b = a }
data Q = Q { x :: Q, y :: Int }
h q = q { x = Q { x = q, y = 2 } }`,
			`module B where
import A (Q, g)
import Prelude (Monad, f)
instance Monad Q where { return x = g; (>>=) m k = return (f Q { x = m, y = k }) }
w = case g of { Q { x = y } -> y; q@Q { } -> q { y = 1 } }`),
		trees(t, "module M where\nh = 1\ng = 2\ndata T = C\ndata S = S { l :: S }\nclass K k where m :: k\n(a, b) = 1",
			"module N where\ni = 1\nf = 2\ndata U = D\ndata V = V { n :: V } | (:+)\nclass J j where o :: j\n(c, d) = 1",
			"module Z where\nimport M\nimport N\nz x = h g i f a b c d C D m o x { l = 1, n = S { l = V :+ V } }\ndata Z = Z T U (S V)\ninstance J Z\ninstance K a => J [a]"),
	}
}

// every tells pointers to all nodes of modules.
func every(nodes []api.Node, tell func(*api.Node)) {
	for i := range nodes {
		tell(&nodes[i])
		every(nodes[i].Subs, tell)
	}
}

func cloneAll(nodes []api.Node) []api.Node {
	out := slices.Clone(nodes)
	for i := range out {
		out[i].Subs = cloneAll(out[i].Subs)
	}
	return out
}

// class says which nodes may stand for each other.
func class(n *api.Node) string {
	name := kindNames[n.Kind]
	switch {
	case n.Kind == api.DFun || n.Kind == api.DPat:
		return "equation"
	case n.Kind == api.EOp || n.Kind == api.EField || n.Kind == api.EAlt:
		return name
	case name[0] == 'D' || name[0] == 'S':
		return name
	case n.Kind == api.None || n.Kind == api.List:
		return "list"
	}
	return name[:1]
}

// spelling says which names may stand for each other.
func spelling(n *api.Node) string {
	switch {
	case n.Name == "", n.Kind == api.EStr, n.Kind == api.PStr, n.Kind == api.DFix:
		return ""
	case strings.ContainsAny(n.Name[:1], ":"):
		return "con"
	case 'A' <= n.Name[0] && n.Name[0] <= 'Z':
		return "con"
	case strings.ContainsAny(n.Name[:1], "([-"):
		return ""
	}
	return "var"
}

// changed is modules with one thing in them changed; they are Right.
func changed(r *rand.Rand, mods []api.Node) []api.Node {
	for {
		out := cloneAll(mods)
		var all []*api.Node
		every(out, func(n *api.Node) { all = append(all, n) })
		for !change(r, all[r.Intn(len(all))], all[r.Intn(len(all))]) {
		}
		if !slices.ContainsFunc(out, func(n api.Node) bool { return !parse.Right(n) }) {
			return out
		}
	}
}

// change changes one node, maybe to what another one is or has.
func change(r *rand.Rand, a, b *api.Node) bool {
	switch r.Intn(20) {
	case 0, 1, 2, 3: // another tree
		if class(a) == class(b) && a.Kind != api.DMod {
			*a = cloneAll([]api.Node{*b})[0]
			return true
		}
	case 4: // one tree less
		if len(a.Subs) > 0 {
			i := r.Intn(len(a.Subs))
			a.Subs = slices.Delete(a.Subs, i, i+1)
			return true
		}
	case 5, 6, 7, 8, 9: // one tree more
		if len(a.Subs) > 0 && class(b) == class(&a.Subs[0]) && b.Kind != api.DMod {
			a.Subs = slices.Insert(a.Subs, r.Intn(len(a.Subs)+1), cloneAll([]api.Node{*b})[0])
			return true
		}
	case 10:
		a.Line, a.Col = r.Intn(30), r.Intn(30)
		return true
	default: // another name
		if spelling(a) != "" && spelling(a) == spelling(b) && a.Name != b.Name {
			a.Name = b.Name
			return true
		}
	}
	return false
}

func size(mods []api.Node) int {
	count := 0
	every(mods, func(*api.Node) { count++ })
	return count
}

// eachChanged tells programs that become of others by changes: most of them
// have no error, and those that do are not changed further.
func eachChanged(t *testing.T, steps int, tell func(r *rand.Rand, mods []api.Node, want []api.Node, d api.Diag)) {
	t.Helper()
	for seed, base := range bases(t) {
		r := rand.New(rand.NewSource(int64(seed)))
		mods := base
		for range steps {
			next := changed(r, mods)
			if size(next) > 400 {
				continue
			}
			want, d := answer(next)
			tell(r, next, want, d)
			if d.Number == api.OK {
				mods = next
			}
			if r.Intn(40) == 0 {
				mods = base
			}
		}
	}
}

// A tally counts programs by the errors that they have.
type tally map[api.Errno]int

// hold holds that a program is resolved as the second resolver does it.
func (c tally) hold(t *testing.T, mods, want []api.Node, wrong api.Diag) {
	t.Helper()
	got, d := names.Resolve(mods...)
	if d != wrong || sayTrees(got) != sayTrees(want) {
		t.Fatalf("%s\ngot  %+v %s\nwant %+v %s", sayTrees(mods), d, sayTrees(got), wrong, sayTrees(want))
	}
	c[d.Number]++
}

// check holds that all errors were among the programs.
func (c tally) check(t *testing.T, least int) {
	t.Helper()
	t.Log(c)
	for _, number := range []api.Errno{api.OK, api.ErrModule, api.ErrImport, api.ErrCycle, api.ErrTwice, api.ErrExport, api.ErrUnknown, api.ErrMany} {
		if c[number] < least {
			t.Errorf("%v was seen %d times", number, c[number])
		}
	}
}

// P4.1 and P4.2: random programs are resolved as the second resolver does it.
func TestRandomPrograms(t *testing.T) {
	counts := tally{}
	eachChanged(t, 2500, func(_ *rand.Rand, mods, want []api.Node, wrong api.Diag) {
		counts.hold(t, mods, want, wrong)
	})
	counts.check(t, 3)
}

// P4.2: likewise programs with several errors, at random positions.
func TestRandomErrors(t *testing.T) {
	counts := tally{}
	eachChanged(t, 1500, func(r *rand.Rand, mods, _ []api.Node, _ api.Diag) {
		for range 1 + r.Intn(8) {
			mods = changed(r, mods)
		}
		if r.Intn(2) == 0 {
			every(mods, func(n *api.Node) { n.Line, n.Col = r.Intn(6), r.Intn(6) })
		}
		want, wrong := answer(mods)
		counts.hold(t, mods, want, wrong)
	})
	counts.check(t, 3)
}

// P4.3: the order of the modules does not matter.
func TestOtherOrders(t *testing.T) {
	hold := func(r *rand.Rand, mods []api.Node) {
		want := sayTrees(resolved(t, mods...))
		for range 4 {
			other := slices.Clone(mods)
			r.Shuffle(len(other), func(i, j int) { other[i], other[j] = other[j], other[i] })
			if got := sayTrees(resolved(t, other...)); got != want {
				t.Fatalf("%s\ngot  %s\nwant %s", sayTrees(other), got, want)
			}
		}
	}
	hold(rand.New(rand.NewSource(1)), trees(t, api.Prelude, "module B where\nimport A\nb = a + f 1", "module A where\na = show 1\nf x = x ++ a", "module C where"))
	eachChanged(t, 500, func(r *rand.Rand, mods, _ []api.Node, d api.Diag) {
		if d.Number == api.OK {
			hold(r, mods)
		}
	})
}

// bound is the resolved names of all that a module binds.
func bound(m api.Node) []string {
	var out []string
	var walk func(n api.Node, inInstance bool)
	walk = func(n api.Node, inInstance bool) {
		switch n.Kind {
		case api.DData, api.DClass:
			out = append(out, "type "+n.Name)
		case api.DCon:
			out = append(out, "con "+n.Name)
		case api.DField, api.DMethod, api.PVar, api.PAs:
			out = append(out, n.Name)
		case api.DFun:
			if !inInstance {
				out = append(out, n.Name)
			}
		}
		for i, sub := range n.Subs {
			if n.Kind == api.DInst && i == 2 {
				for _, f := range sub.Subs {
					walk(f, true)
				}
				continue
			}
			walk(sub, false)
		}
	}
	walk(m, false)
	return out
}

// P4.3: no two bound entities have one name.
func TestNamesDiffer(t *testing.T) {
	hold := func(out []api.Node) {
		global := map[string]string{}
		for _, m := range out {
			local := map[string]bool{}
			for _, name := range bound(m) {
				if local[name] || global[name] != "" {
					t.Fatalf("%s is bound twice in %s", name, say(m))
				}
				local[name] = true
				if strings.HasPrefix(strings.TrimPrefix(strings.TrimPrefix(name, "type "), "con "), m.Name+".") {
					global[name] = m.Name
				}
			}
		}
	}
	hold(resolved(t, tree(t, api.Prelude)))
	eachChanged(t, 1000, func(_ *rand.Rand, mods, _ []api.Node, d api.Diag) {
		if d.Number == api.OK {
			hold(resolved(t, mods...))
		}
	})
}

// isLocalName says whether a resolved name is that of a local binding.
func isLocalName(name string) (string, bool) {
	i := strings.LastIndexByte(name, '.')
	if i <= 0 || 'A' <= name[0] && name[0] <= 'Z' {
		return "", false
	}
	_, err := strconv.Atoi(name[i+1:])
	return name[i+1:], err == nil
}

// renameLocals gives the local variables of a tree, whose resolved form is
// known, names that nothing else has, and does so in the resolved form too.
func renameLocals(n, out *api.Node) {
	switch n.Kind {
	case api.EVar, api.EOp, api.PVar, api.PAs, api.DFun:
		if number, ok := isLocalName(out.Name); ok {
			n.Name = "zz" + strings.Repeat("'", len(number)) + number
			out.Name = n.Name + "." + number
		}
	}
	for i := range n.Subs {
		renameLocals(&n.Subs[i], &out.Subs[i])
	}
}

// P4.3: renaming local variables changes these names alone.
func TestRenamedLocals(t *testing.T) {
	count := 0
	hold := func(mods []api.Node) {
		out := resolved(t, mods...)
		mods = cloneAll(mods)
		for i := range out {
			k := slices.IndexFunc(mods, func(m api.Node) bool { return m.Name == out[i].Name })
			before := say(mods[k])
			renameLocals(&mods[k].Subs[2], &out[i].Subs[2])
			if say(mods[k]) != before {
				count++
			}
		}
		if got, want := sayTrees(resolved(t, mods...)), sayTrees(out); got != want {
			t.Fatalf("%s\ngot  %s\nwant %s", sayTrees(mods), got, want)
		}
	}
	hold(trees(t, api.Prelude))
	for _, mods := range bases(t) {
		hold(mods)
	}
	eachChanged(t, 1000, func(_ *rand.Rand, mods, _ []api.Node, d api.Diag) {
		if d.Number == api.OK {
			hold(mods)
		}
	})
	if count < 1000 {
		t.Error("too few modules had local variables:", count)
	}
}
