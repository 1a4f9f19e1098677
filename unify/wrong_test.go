package unify_test

import (
	"slices"
	"testing"

	"teasel/api"
)

// P7.2: Unify holds every type of the pairs against what is valid.
func TestUnifyWrong(t *testing.T) {
	for what, n := range wrongTypes() {
		if got := unified(t, [2]api.Type{n, n}); got != "ErrArg" {
			t.Errorf("%s: %s", what, got)
		}
		for _, around := range []string{"", "a ~ A", "a ~ A; a ~ B", "A ~ B", "a ~ A a"} {
			pairs := readPairs(around)
			for i := range len(pairs) + 1 {
				wantUnified(t, "ErrArg", slices.Insert(slices.Clone(pairs), i, [2]api.Type{n, con("A")})...)
				wantUnified(t, "ErrArg", slices.Insert(slices.Clone(pairs), i, [2]api.Type{n, variable("z")})...)
			}
		}
	}
}

// P7.2: Unify refuses types that are too big, even where they are the same.
func TestUnifyBig(t *testing.T) {
	least, most := great(1001, variable("b")), great(999, variable("b"))
	wantUnified(t, "ErrBig", [2]api.Type{least, variable("z")})
	wantUnified(t, "ErrBig", [2]api.Type{least, least})
	wantUnified(t, "ErrBig", [2]api.Type{least, con("A")})
	wantUnified(t, "z = "+say(most), [2]api.Type{most, variable("z")})
	wantUnified(t, "", [2]api.Type{most, most})
	wantUnified(t, "ErrUnify", [2]api.Type{most, con("A")})
	wantUnified(t, "b = a", [2]api.Type{most, great(999, variable("a"))})
	for _, around := range []string{"a ~ A", "a ~ A; a ~ B", "A ~ B", "a ~ A a"} {
		pairs := readPairs(around)
		for i := range len(pairs) + 1 {
			wantUnified(t, "ErrBig", slices.Insert(slices.Clone(pairs), i, [2]api.Type{least, con("A")})...)
		}
	}
}

// P7.2: which of two errors comes first.
func TestUnifyErrors(t *testing.T) {
	wrong := [2]api.Type{{}, con("A")}
	big := [2]api.Type{great(1001, con("A")), con("A")}
	bad := [2]api.Type{con("A"), con("B")}
	for _, pairs := range [][][2]api.Type{
		{wrong, big}, {wrong, bad}, {wrong, big, bad}, {bad, big, wrong}, {{{}, big[0]}},
		{{app(big[0], api.Type{}), big[0]}}, {{app(api.Type{}, big[0]), con("A")}},
	} {
		wantUnified(t, "ErrArg", pairs...)
	}
	wantUnified(t, "ErrBig", big, bad)
	wantUnified(t, "ErrBig", big, [2]api.Type{variable("a"), read("A a")})
}

// P7.2: a sub that is too big, though no type of the pairs is.
func TestUnifyBigSub(t *testing.T) {
	a, b, c := variable("a"), variable("b"), variable("c")
	for _, p := range []struct{ left, right int }{{1, 1}, {499, 499}, {997, 1}, {1, 997}, {499, 501}, {501, 499}, {999, 1}, {1, 999}, {999, 999}} {
		left, right := great(p.left, con("L")), great(p.right, con("R"))
		want := "ErrBig"
		if p.left+p.right+1 <= 999 {
			want = "a = " + say(app(left, right)) + "; b = " + say(left) + "; c = " + say(right)
		}
		wantUnified(t, want, [2]api.Type{a, app(b, c)}, [2]api.Type{b, left}, [2]api.Type{c, right})
		if want == "ErrBig" {
			// It is too big in whichever sub it stands, and whatever the other ones are.
			wantUnified(t, want, [2]api.Type{app(b, c), a}, [2]api.Type{b, left}, [2]api.Type{c, right}, [2]api.Type{variable("d"), con("D")})
			wantUnified(t, want, [2]api.Type{variable("z"), app(b, c)}, [2]api.Type{b, left}, [2]api.Type{c, right}, [2]api.Type{a, con("D")})
			// There is none, if nothing unifies the pairs.
			wantUnified(t, "ErrUnify", [2]api.Type{a, app(b, c)}, [2]api.Type{b, left}, [2]api.Type{c, right}, [2]api.Type{con("A"), con("B")})
			wantUnified(t, "ErrUnify", [2]api.Type{a, app(b, c)}, [2]api.Type{b, left}, [2]api.Type{c, right}, [2]api.Type{variable("d"), read("A d")})
			wantUnified(t, "ErrUnify", [2]api.Type{a, app(b, c)}, [2]api.Type{b, left}, [2]api.Type{c, right}, [2]api.Type{variable("Z"), app(variable("Z"), a)})
		}
		// No sub is too big here, though the types of the pair become so.
		want = "b = " + say(left) + "; c = " + say(right)
		wantUnified(t, want, [2]api.Type{app(b, c), app(b, c)}, [2]api.Type{b, left}, [2]api.Type{c, right})
		wantUnified(t, want+"; d = "+say(left), [2]api.Type{app(b, c), app(variable("d"), c)}, [2]api.Type{b, left}, [2]api.Type{c, right})
	}
	// TVars count as well.
	wantUnified(t, "ErrBig", [2]api.Type{a, great(999, b)}, [2]api.Type{b, read("c d")})
	wantUnified(t, "a = "+say(great(999, c))+"; b = "+say(app(c, con("A"))), [2]api.Type{a, great(997, b)}, [2]api.Type{b, app(c, con("A"))})
}

// P7.3: which errors Match answers, and which first.
func TestMatchWrong(t *testing.T) {
	a, least, most := variable("a"), great(1001, variable("b")), great(999, variable("b"))
	for what, n := range wrongTypes() {
		for _, pair := range [][2]api.Type{{n, n}, {n, a}, {a, n}, {con("A"), n}, {n, con("A")}, {least, n}, {n, least}, {app(n, least), a}, {a, app(least, n)}} {
			if got := matched(t, pair[0], pair[1]); got != "ErrArg" {
				t.Errorf("%s: %s", what, got)
			}
		}
	}
	for _, pair := range [][2]api.Type{{least, least}, {least, a}, {a, least}, {con("A"), least}, {least, con("A")}, {least, most}, {most, least}} {
		if got := matched(t, pair[0], pair[1]); got != "ErrBig" {
			t.Errorf("%s", got)
		}
	}
	for want, pair := range map[string][2]api.Type{
		"a = " + say(most): {a, most},
		"b = b":            {most, most},
		"c = b":            {great(999, variable("c")), most},
		"ErrUnify":         {most, a},
	} {
		if got := matched(t, pair[0], pair[1]); got != want {
			t.Errorf("got %.100s, want %.100s", got, want)
		}
	}
}
