package unify_test

import (
	"math/rand"
	"slices"
	"strconv"
	"strings"
	"testing"
	"time"

	"teasel/api"
	"teasel/unify"
)

// hold20 holds that something ends within some time.
func hold20(t *testing.T, what string, do func()) {
	t.Helper()
	start := time.Now()
	do()
	if took := time.Since(start); took > 20*time.Second {
		t.Errorf("%s took %v", what, took)
	}
}

// nested is a type in which the same stands so many times, one in another.
func nested(times int, inner api.Type, around func(api.Type) api.Type) api.Type {
	for range times {
		inner = around(inner)
	}
	return inner
}

func toLeft(n api.Type) api.Type   { return app(n, con("A")) }
func toRight(n api.Type) api.Type  { return app(con("A"), n) }
func inList(n api.Type) api.Type   { return app(con("Prim.[]"), n) }
func toArrow(n api.Type) api.Type  { return app(con("Prim.->"), n, con("A")) }
func toResult(n api.Type) api.Type { return app(con("Prim.->"), con("A"), n) }
func doubled(n api.Type) api.Type  { return app(n, n) }
func v(i int) api.Type             { return variable("v" + strconv.Itoa(i)) }

// R4: types may have 2^16 levels.
func TestDeep(t *testing.T) {
	const levels = 1<<16 - 10
	a, b := variable("a"), con("B")
	for _, c := range []struct {
		around         func(api.Type) api.Type
		times          int
		ahead, between string
		behind         string
	}{
		{toLeft, levels, "", "", " A"},
		{inList, levels, "[", "", "]"},
		{toArrow, levels / 2, "(", "", ") -> A"},
		{toResult, levels, "A -> ", "", ""},
		{toRight, levels, "A (", "", ")"},
	} {
		deep, other, wrong := nested(c.times, a, c.around), nested(c.times, b, c.around), nested(c.times, api.Type{}, c.around)
		hold20(t, c.ahead+c.behind, func() {
			if errno := unify.Check(deep); errno != api.ErrBig {
				t.Error(errno)
			}
			if errno := unify.Check(wrong); errno != api.ErrArg {
				t.Error(errno)
			}
			if got := unify.Apply(deep, api.Sub{Name: "a", Type: b}); !alike(got, other) {
				t.Error(c.ahead, c.behind, "applied")
			}
			if got := unify.Apply(deep, api.Sub{Name: "a", Type: deep}); !alike(got, nested(c.times, deep, c.around)) {
				t.Error(c.ahead, c.behind, "applied to itself")
			}
			if got := unify.Apply(deep, api.Sub{Name: "a", Type: wrong}); got.Kind != 0 {
				t.Error(c.ahead, c.behind, "applied to a wrong one")
			}
			if got := unify.Text(wrong); got != "" {
				t.Errorf("%.100q", got)
			}
			if got := unified(t, [2]api.Type{deep, a}) + " " + matched(t, a, deep) + " " + unified(t, [2]api.Type{deep, wrong}); got != "ErrBig ErrBig ErrArg" {
				t.Error(got)
			}
			got := unify.Text(deep)
			inner := strings.TrimSuffix(strings.TrimPrefix(got, strings.Repeat(c.ahead, c.times-1)), strings.Repeat(c.behind, c.times-1))
			if want := unify.Text(c.around(a)); inner != want || len(got) != len(want)+(c.times-1)*len(c.ahead+c.behind) {
				t.Errorf("%.100q: %.100q", got, inner)
			}
		})
	}
}

// R1: calls for deeper types end too.
func TestTooDeep(t *testing.T) {
	for _, around := range []func(api.Type) api.Type{toLeft, toRight, toResult} {
		deep := nested(300000, variable("a"), around)
		hold20(t, "a deep type", func() {
			unify.Check(deep)
			unify.Text(deep)
			unify.Apply(deep)
			unify.Apply(variable("a"), api.Sub{Name: "a", Type: deep})
			unify.Unify([2]api.Type{deep, variable("a")})
			unify.Match(variable("a"), deep)
		})
	}
	// Calls within calls would not do for this one.
	deeper := nested(4000000, variable("a"), toRight)
	hold20(t, "a deeper type", func() { unify.Text(deeper) })
	hold20(t, "a deeper type", func() { unify.Apply(deeper) })
}

// R1: a type that takes little memory may have more nodes than can be gone
// through.
func TestShared(t *testing.T) {
	a := variable("a")
	for _, times := range []int{40, 70, 10000} {
		hold20(t, "doubled types", func() {
			vast, wrong := nested(times, a, doubled), nested(times, api.Type{}, doubled)
			mixed := app(vast, api.Type{Kind: api.TApp})
			if one, two, three := unify.Check(vast), unify.Check(wrong), unify.Check(mixed); one != api.ErrBig || two != api.ErrArg || three != api.ErrArg {
				t.Error(one, two, three)
			}
			got := []string{unified(t, [2]api.Type{vast, vast}), unified(t, [2]api.Type{a, wrong}, [2]api.Type{vast, a}), matched(t, vast, a), matched(t, a, vast), matched(t, vast, mixed)}
			if want := []string{"ErrBig", "ErrArg", "ErrBig", "ErrBig", "ErrArg"}; !slices.Equal(got, want) {
				t.Error(got)
			}
			// What these answer would be greater than answers can be.
			unify.Text(vast)
			unify.Apply(vast)
			unify.Apply(vast, api.Sub{Name: "a", Type: vast})
			unify.Apply(nested(20, a, doubled), api.Sub{Name: "a", Type: nested(20, a, doubled)})
			if got := unify.Apply(a, api.Sub{Name: "b", Type: vast}); !alike(got, a) {
				t.Error(got.Kind)
			}
			if got := unify.Apply(a, api.Sub{Name: "b", Type: wrong}); got.Kind != 0 {
				t.Error(got.Kind)
			}
		})
	}
	// Within what can be, the same is answered as for types that share nothing.
	shared := nested(15, a, doubled)
	if got := unify.Apply(shared, api.Sub{Name: "a", Type: read("A b")}); !alike(got, nested(15, read("A b"), doubled)) {
		t.Error("applied")
	}
	if got, want := unify.Text(nested(3, a, doubled)), "a a (a a) (a a (a a))"; got != want {
		t.Error(got)
	}
	if got, want := matched(t, nested(7, a, doubled), nested(7, read("A b"), doubled)), "a = A b"; got != want {
		t.Error(got)
	}
	// Subs of a TApp may lie within a greater list.
	three := []api.Type{con("A"), variable("b"), con("C")}
	n := app(api.Type{Kind: api.TApp, Subs: three[:2]}, api.Type{Kind: api.TApp, Subs: three[1:]})
	if got := unify.Text(n); got != "A b (b C)" {
		t.Error(got)
	}
	if got := unified(t, [2]api.Type{n, read("A d (d C)")}, [2]api.Type{variable("d"), read("D")}); got != "b = D; d = D" {
		t.Error(got)
	}
}

// R1: many types that share what is great in them.
func TestManyShared(t *testing.T) {
	const count = 100000
	most, vast := great(999, variable("z")), great(100001, variable("z"))
	var pairs [][2]api.Type
	var subs []api.Sub
	for i := range count {
		pairs = append(pairs, [2]api.Type{most, most})
		subs = append(subs, api.Sub{Name: "b" + strconv.Itoa(i), Type: vast})
	}
	hold20(t, "pairs of one type", func() {
		if got := unified(t, pairs...); got != "" {
			t.Error(got)
		}
		if got := unified(t, append(pairs, [2]api.Type{most, great(999, con("B"))})...); got != "z = B" {
			t.Error(got)
		}
		if got := unified(t, append(pairs, [2]api.Type{most, great(997, variable("y"))})...); got != "y = z A" {
			t.Error(got)
		}
		if got := unified(t, append(pairs, [2]api.Type{most, great(999, con("B"))}, [2]api.Type{most, great(999, con("C"))})...); got != "ErrUnify" {
			t.Error(got)
		}
	})
	hold20(t, "subs of one type", func() {
		if got := unify.Apply(read("b7 b100000"), subs...); !alike(got, app(vast, variable("b100000"))) {
			t.Error(got.Kind)
		}
	})
	hold20(t, "subs greater than answers can be", func() {
		for i := range pairs {
			pairs[i] = [2]api.Type{v(i), most}
		}
		unify.Unify(pairs...)
	})
}

// P7.2: the subs of some pairs are far greater than can be built, though each
// of the pairs is small.
func TestDoubling(t *testing.T) {
	double := func(letter string, i int) [2]api.Type {
		inner := variable(letter + strconv.Itoa(i))
		return [2]api.Type{variable(letter + strconv.Itoa(i+1)), app(con("A"), inner, inner)}
	}
	chain := func(letter string, count int) [][2]api.Type {
		var all [][2]api.Type
		for i := range count {
			all = append(all, double(letter, i))
		}
		return all
	}
	// v1 has 5 nodes, v2 has 13, v3 29, and so on: v7 has 509, v8 has 1021.
	for count := range 12 {
		subs, errno := unify.Unify(chain("v", count)...)
		if want := count > 7; (errno == api.ErrBig) != want || !want && errno != api.OK {
			t.Error(count, errno)
		}
		if errno == api.OK && len(subs) != count || count == 7 && nodesOf(subs[6].Type) != 509 {
			t.Error(count, len(subs))
		}
	}
	for _, count := range []int{20, 64, 1000, 20000} {
		hold20(t, "a doubling chain", func() {
			both := append(chain("v", count), chain("w", count)...)
			last := [2]api.Type{v(count), variable("w" + strconv.Itoa(count))}
			wantUnified(t, "ErrBig", both...)
			wantUnified(t, "ErrBig", append(both, last)...)
			wantUnified(t, "ErrBig", append([][2]api.Type{last}, both...)...)
			wantUnified(t, "ErrBig", append(both, last, [2]api.Type{v(0), variable("w0")})...)
			wantUnified(t, "ErrUnify", append(both, last, [2]api.Type{v(0), con("B")}, [2]api.Type{variable("w0"), con("C")})...)
			wantUnified(t, "ErrUnify", append(both, last, [2]api.Type{v(0), variable("w1")})...)
			wantUnified(t, "ErrUnify", append(both, last, [2]api.Type{v(0), v(count)})...)
		})
	}
}

// P7.2: in these pairs a TVar never meets another one until all of them are
// gone through.
func TestAlternating(t *testing.T) {
	for _, count := range []int{3, 30, 100, 10000} {
		var pairs [][2]api.Type
		x := func(i int) api.Type { return variable("x" + strconv.Itoa(i)) }
		z := func(i int) api.Type { return variable("z" + strconv.Itoa(i)) }
		for i := range count {
			pairs = append(pairs, [2]api.Type{x(i), app(con("P"), app(con("Q"), x(i+1), x(i+1)))})
			within := app(con("P"), z(i+1))
			pairs = append(pairs, [2]api.Type{z(i), app(con("Q"), within, within)})
		}
		want := "ErrBig"
		if count == 3 {
			solution, _ := solve(append(pairs, [2]api.Type{x(0), app(con("P"), z(0))}))
			want = sayAll(solution.subs())
		}
		hold20(t, "alternating pairs", func() {
			wantUnified(t, want, append(pairs, [2]api.Type{x(0), app(con("P"), z(0))})...)
			wantUnified(t, "ErrUnify", append(pairs, [2]api.Type{x(0), app(con("P"), z(0))}, [2]api.Type{x(count), app(con("R"), z(count))})...)
		})
	}
}

// P7.2: long chains of pairs.
func TestChains(t *testing.T) {
	const count = 100000
	var same, within [][2]api.Type
	names := []string{"v0"}
	for i := range count {
		same = append(same, [2]api.Type{v(i), v(i + 1)})
		within = append(within, [2]api.Type{v(i), app(con("A"), v(i+1))})
		names = append(names, "v"+strconv.Itoa(i+1))
	}
	slices.Sort(names)
	var all strings.Builder
	for _, name := range names[1:] {
		all.WriteString(name + " = v0; ")
	}
	want := strings.TrimSuffix(all.String(), "; ")
	hold20(t, "a chain of TVars", func() {
		wantUnified(t, want, same...)
		rand.New(rand.NewSource(7)).Shuffle(count, func(i, j int) { same[i], same[j] = same[j], same[i] })
		wantUnified(t, want, same...)
		wantUnified(t, strings.ReplaceAll("v0 = v0; "+want, "= v0", "= B"), append(same, [2]api.Type{v(count / 2), con("B")})...)
		wantUnified(t, "ErrUnify", append(same, [2]api.Type{v(7), app(con("B"), v(count/2))})...)
	})
	hold20(t, "a chain of types", func() {
		wantUnified(t, "ErrBig", within...)
		wantUnified(t, "ErrUnify", append(within, [2]api.Type{v(count), v(0)})...)
		wantUnified(t, "ErrUnify", append(within, [2]api.Type{v(count), con("B")}, [2]api.Type{v(0), con("A")})...)
		// One type is so deep that calls within calls would not do.
		both := slices.Clone(within)
		for i := range count {
			both = append(both, [2]api.Type{variable("w" + strconv.Itoa(i)), app(con("A"), variable("w"+strconv.Itoa(i+1)))})
		}
		wantUnified(t, "ErrBig", append(both, [2]api.Type{v(0), variable("w0")})...)
		wantUnified(t, "ErrUnify", append(both, [2]api.Type{v(0), variable("w1")}, [2]api.Type{v(1), variable("w0")})...)
	})
	hold20(t, "many subs", func() {
		var pairs [][2]api.Type
		for i := range count {
			pairs = append(pairs, [2]api.Type{v(i), con("B" + strconv.Itoa(i))})
		}
		subs, errno := unify.Unify(pairs...)
		if errno != api.OK || len(subs) != count || !slices.IsSortedFunc(subs, func(a, b api.Sub) int { return strings.Compare(a.Name, b.Name) }) {
			t.Error(errno, len(subs))
		}
		for _, s := range subs {
			if s.Name[1:] != s.Type.Name[1:] {
				t.Error(s)
			}
		}
		n := nested(1000, v(3), func(n api.Type) api.Type { return app(n, v(5)) })
		if got := unify.Apply(n, subs...); !alike(got, nested(1000, con("B3"), func(n api.Type) api.Type { return app(n, con("B5")) })) {
			t.Error("applied")
		}
	})
}
