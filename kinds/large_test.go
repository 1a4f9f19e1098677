package kinds_test

import (
	"slices"
	"strconv"
	"strings"
	"testing"
	"time"

	"teasel/api"
	"teasel/kinds"
)

// nested is something in which the same stands so many times, one in another.
func nested(times int, inner api.Node, around func(api.Node) api.Node) api.Node {
	for range times {
		inner = around(inner)
	}
	return inner
}

// quickly is what Kinds answers for modules, within some time.
func quickly(t *testing.T, what string, mods ...api.Node) ([]api.Kinded, api.Diag) {
	t.Helper()
	start := time.Now()
	all, d := kinds.Kinds(mods...)
	if d.Number != api.OK && len(all) != 0 {
		t.Fatal(what, "has kinds beside an error:", say(all))
	}
	if took := time.Since(start); took > 20*time.Second {
		t.Errorf("%s took %v", what, took)
	}
	return all, d
}

// wantQuickly holds that a module M has these kinds.
func wantQuickly(t *testing.T, what, want string, declarations ...api.Node) {
	t.Helper()
	all, d := quickly(t, what, module("M", declarations...))
	if got := strings.ReplaceAll(say(all), "M.", ""); d != (api.Diag{}) || got != want {
		t.Errorf("%s: %+v\ngot  %.200s\nwant %.200s", what, d, got, want)
	}
}

// wantWrongAt holds that a module M has ErrKind in that line.
func wantWrongAt(t *testing.T, what string, line int, declarations ...api.Node) {
	t.Helper()
	_, d := quickly(t, what, module("M", declarations...))
	if want := (api.Diag{File: "M", Line: line, Number: api.ErrKind}); d != want {
		t.Errorf("%s: %+v, not %+v", what, d, want)
	}
}

// R4: types may have 2^16 levels.
func TestDeep(t *testing.T) {
	const levels = 1<<16 - 10
	number := con("Int")
	list := func(n api.Node) api.Node { return applied(con("[]"), n) }
	left := func(n api.Node) api.Node { return applied(n, con("Int")) }
	right := func(n api.Node) api.Node { return function(con("Int"), n) }
	wantQuickly(t, "lists", "T :: *", data("T", "", nested(levels, number, list)))
	wantQuickly(t, "lists of a", "T :: * -> *", data("T", "a", nested(levels, variable("a"), list)))
	wantQuickly(t, "functions", "T :: *", data("T", "", nested(levels/2, number, right)))
	wantQuickly(t, "a method", "K :: *", class("K", "k", function(nested(levels-2, variable("a"), left), variable("k"))))
	wantQuickly(t, "f of f", "T :: (* -> *) -> *", data("T", "f", nested(levels, number, func(n api.Node) api.Node { return applied(variable("f"), n) })))
	wantWrongAt(t, "lists of IO", 7, data("S", ""), at(data("T", "", nested(levels, con("IO"), list)), 7, 0))
	wantWrongAt(t, "too many arguments", 7, data("S", ""), at(data("T", "", nested(levels, con("IO"), left)), 7, 0))
	wantWrongAt(t, "too many stars", 7, data("S", ""), at(data("T", "f", nested(levels, variable("f"), left)), 7, 0))
	wantWrongAt(t, "no k", 7, data("S", ""), at(class("K", "k", nested(levels, number, list)), 7, 0))
}

// R1: calls for deeper trees end too, even for those without an end.
func TestTooDeep(t *testing.T) {
	kinds.Kinds(module("M", data("T", "a", nested(1<<18, variable("a"), func(n api.Node) api.Node { return applied(con("IO"), n) }))))
	endless := applied(con("IO"), con("Int"))
	endless.Subs[1] = endless
	if d := diagOf(t, module("M", data("T", "", endless))); d != (api.Diag{Number: api.ErrTree}) {
		t.Error("a tree without an end:", d)
	}
}

// wideData is a DData with so many variables, v0 and so on.
func wideData(name string, count int, types ...api.Node) api.Node {
	return data(name, strings.TrimSpace(many("v", count)), types...)
}

func v(i int) api.Node {
	return variable("v" + strconv.Itoa(i))
}

// P6.2: many variables, each with a great kind.
func TestWide(t *testing.T) {
	const count = 20000
	var chain []api.Node
	for i := range count - 1 {
		chain = append(chain, applied(v(i+1), v(i)))
	}
	wantWrongAt(t, "a chain", 7, data("S", ""), at(wideData("T", count, chain...), 7, 0))
	// Whether the chain has an end is known from its last link alone.
	wantWrongAt(t, "a ring", 7, data("S", ""), at(wideData("T", count, append(chain, applied(v(0), v(count-1)))...), 7, 0), at(data("U", "", con("IO")), 8, 0))
	wantWrongAt(t, "variables", 7, data("S", ""), at(wideData("T", 1<<17), 7, 0))
	var names []api.Node
	for i := range 1 << 15 {
		names = append(names, variable("x"+strconv.Itoa(i)))
	}
	wantWrongAt(t, "an instance", 7, class("K", "k"), data("T", "a"), at(instance("K", applied(con("T"), names...)), 7, 0))
	wantWrongAt(t, "a preds' instance", 7, class("K", "k"), class("L", "l", applied(variable("l"), con("Int"))), data("T", "a"),
		at(instance("K", applied(con("T"), variable("a")), append(slices.Repeat([]api.Node{call(api.DPred, "K", variable("a"))}, 1<<16), call(api.DPred, "L", variable("a")))...), 7, 0))
}

// doubling is types in which the kind of each variable has twice the stars of
// the one ahead of it.
func doubling(letter string, count int) []api.Node {
	name := func(i int) api.Node { return variable(letter + strconv.Itoa(i)) }
	var all []api.Node
	for i := range count - 1 {
		all = append(all, applied(name(i+1), name(i), name(i)))
	}
	return all
}

// chained is a function type with these arguments.
func chained(to api.Node, from ...api.Node) api.Node {
	for _, n := range from {
		to = function(n, to)
	}
	return to
}

// P6.1 and P6.2: kinds that would be too great to be written down.
func TestDoubling(t *testing.T) {
	const count = 5000
	wantWrongAt(t, "data", 7, data("S", ""), at(wideData("T", count, doubling("v", count)...), 7, 0))
	wantQuickly(t, "a method's variables", "K :: *", class("K", "k", chained(variable("k"), doubling("a", count)...)))
	// Two such kinds that are the same, and two of which one is longer.
	same := slices.Concat(doubling("a", count), doubling("b", count))
	last := variable("a" + strconv.Itoa(count-1))
	ends := []api.Node{applied(variable("f"), last), applied(variable("f"), variable("b"+strconv.Itoa(count-1)))}
	wantQuickly(t, "twice the same", "K :: *", class("K", "k", chained(variable("k"), append(same, ends...)...)))
	begins := []api.Node{variable("a0"), variable("b1")}
	wantWrongAt(t, "of two lengths", 7, data("S", ""), at(class("K", "k", chained(variable("k"), slices.Concat(same, ends, begins)...)), 7, 0))
	// One that is a part of itself by another one.
	ring := append(doubling("a", count), applied(variable("a0"), last))
	wantWrongAt(t, "a ring", 7, data("S", ""), at(class("K", "k", chained(variable("k"), ring...)), 7, 0))
}

// row is so many DDatas with a variable, each of which uses the next one.
func row(count int) []api.Node {
	var all []api.Node
	for i := range count {
		next := con("T" + strconv.Itoa(i+1))
		all = append(all, at(data("T"+strconv.Itoa(i), "a", applied(next, variable("a"))), i+1, 0))
	}
	return all
}

// P6.2: the first one with which there is no solution is found among many.
func TestMany(t *testing.T) {
	const count = 20000
	end := "T" + strconv.Itoa(count)
	all := append(row(count), at(data(end, "a", applied(variable("a"), con("Int"))), count+1, 0))
	answers, d := quickly(t, "a row", module("M", all...))
	if d != (api.Diag{}) || len(answers) != count+1 {
		t.Fatalf("%d kinds, %+v", len(answers), d)
	}
	for i, k := range answers {
		if k != (api.Kinded{Name: "M.T" + strconv.Itoa(i), Kind: "(* -> *) -> *"}) {
			t.Fatalf("%d: %+v", i, k)
		}
	}
	wrong := at(data("X", "", applied(con("T0"), con("Int"))), 77777, 0)
	wantWrongAt(t, "one behind", 77777, append(all, wrong, data("Y", "", con("IO")))...)
	wantWrongAt(t, "one ahead", count+1, append([]api.Node{wrong}, all...)...)
	for _, place := range []int{1, 2, 777, count / 2, count} {
		changed := slices.Clone(all)
		changed[place-1] = at(data("T"+strconv.Itoa(place-1), "a", applied(variable("a"), variable("a"))), place, 0)
		wantWrongAt(t, "the one at "+strconv.Itoa(place), place, changed...)
	}
	var instances []api.Node
	for i := range count {
		instances = append(instances, at(instance("K", con("T"+strconv.Itoa(i))), i, 0))
	}
	k := class("K", "k", applied(variable("k"), con("IO")))
	wantWrongAt(t, "an instance", 88888, slices.Concat(instances, all, []api.Node{k, at(instance("K", con("IO")), 88888, 0)})...)
}

// P6.1: many modules, each with types that the others use.
func TestManyModules(t *testing.T) {
	const count = 200
	var mods []api.Node
	var names []string
	var want []string
	for i := range count {
		name, used := "M"+strconv.Itoa(1000+i), con("Int")
		if i > 0 {
			used = con("T" + strconv.Itoa(i-1))
		}
		types := []api.Node{applied(variable("f"), con("Int"))}
		if i > 0 {
			types = []api.Node{applied(used, variable("f"))}
		}
		mods = append(mods, importing(module(name, data("T"+strconv.Itoa(i), "f", types...)), names...))
		names = append(names, name)
		want = append(want, name+".T"+strconv.Itoa(i)+" :: (* -> *) -> *")
	}
	slices.Reverse(mods)
	all, d := quickly(t, "modules", mods...)
	if d != (api.Diag{}) || say(all) != strings.Join(want, "; ") {
		t.Errorf("%+v %.300s", d, say(all))
	}
}

// spared is modules whose lists have memory behind their ends.
func spared(nodes []api.Node) []api.Node {
	out := make([]api.Node, len(nodes), len(nodes)+3)
	copy(out, nodes)
	for i := range out {
		out[i].Subs = spared(out[i].Subs)
	}
	for i := range out[len(out):cap(out)] {
		out[len(out):cap(out)][i] = call(api.EVar, "spare")
	}
	return out
}

// whole is all of trees, with what is behind the ends of lists.
func whole(nodes []api.Node) string {
	var b strings.Builder
	for i, n := range nodes[:cap(nodes)] {
		for _, number := range []int{n.Kind, n.N, n.Line, n.Col, len(n.Subs)} {
			b.WriteString(strconv.Itoa(number) + ",")
		}
		b.WriteString(strconv.Quote(n.Name))
		if i < len(nodes) {
			b.WriteString("<" + whole(n.Subs) + ">")
		}
	}
	return b.String()
}

// samples is programs, also wrong ones.
func samples(t *testing.T) [][]api.Node {
	t.Helper()
	const a = "module A where\ninfixl 6 +\n(+) = 1 + 2 + 3\ndata T f a = C (f a) | D { l :: f Int }\nclass K k where { m :: k a -> k b }\ninstance K IO where { m = 1 + 2 }\n"
	const b = "module B where\nimport A\ndata U f = E (T f Int)\ninstance K f => K (T f)\n"
	out := [][]api.Node{
		trees(t, a), trees(t, a, b), trees(t, b, a), trees(t, api.Prelude), trees(t, b, api.Prelude, a),
		trees(t, a+"data X = X IO"), trees(t, a, b+"instance K Int"), trees(t, a, b+"data X"+many("a", 64)),
		trees(t, a, b+"class L l where n :: Int"), trees(t, a, "module Z where\nf = g"), {{}},
	}
	for _, careful := range []bool{true, false} {
		eachProgram(t, 40, careful, func(mods []api.Node, _ []api.Kinded, _ api.Diag) { out = append(out, mods) })
	}
	return out
}

// R2 and R3: trees are left as they were handed in, also if there is an
// error; and an answer depends on them alone.
func TestTreesAreLeft(t *testing.T) {
	for _, mods := range samples(t) {
		mods = spared(mods)
		before := whole(mods)
		first, d := kinds.Kinds(mods...)
		if whole(mods) != before {
			t.Fatal("a tree was changed:", whole(mods))
		}
		kinds.Kinds(tree(t, "module A where\ndata T = T\ndata K k = C (k Int)\nclass U u where m :: u IO"))
		kinds.Kinds(tree(t, "module A where\ndata T = T IO"))
		second, again := kinds.Kinds(mods...)
		if !slices.Equal(first, second) || d != again {
			t.Fatal("not the same again:", d, again)
		}
	}
}

// R2: an answer shares no memory with another one or with a tree.
func TestAnswersStandAlone(t *testing.T) {
	for _, mods := range samples(t) {
		mods = spared(mods)
		first, _ := kinds.Kinds(mods...)
		second, _ := kinds.Kinds(mods...)
		want := slices.Clone(first)
		clear(second[:cap(second)])
		every(mods, func(n *api.Node) { n.Name, n.Kind = "", 0 })
		if !slices.Equal(first, want) {
			t.Fatal("an answer was changed")
		}
	}
}

// R2: a tree in which one list stands at several places is as one in which
// each place has its own.
func TestSharedLists(t *testing.T) {
	fa := applied(variable("f"), variable("a"))
	wantQuickly(t, "shared", "T :: (* -> *) -> * -> *; U :: (* -> *) -> * -> *; K :: * -> *",
		data("T", "f a", fa, fa, function(fa, fa)), data("U", "f a", fa, function(fa, fa)), class("K", "f", fa, fa, function(fa, fa)))
}
