package unify_test

import (
	"testing"

	"teasel/api"
	"teasel/unify"
)

// P7.1: which types are valid.
func TestCheck(t *testing.T) {
	for _, text := range []string{"a", "A", "a b", "A b", "a B", "A B c", "a (b c)", "-> a b", "[] a", "(,) a b", "(,,) a b c", "a (b (c d) e) f", "M.T x.1"} {
		if errno := unify.Check(read(text)); errno != api.OK {
			t.Errorf("%s: %v", text, errno)
		}
	}
	for _, n := range []api.Type{
		{Kind: api.TVar, Name: "a", Subs: []api.Type{}},
		{Kind: api.TCon, Name: "a", Subs: make([]api.Type, 0, 2)},
		{Kind: api.TCon, Name: " "},
		{Kind: api.TVar, Name: "\x00\xff"},
	} {
		if errno := unify.Check(n); errno != api.OK {
			t.Errorf("%+v: %v", n, errno)
		}
	}
	for what, n := range wrongTypes() {
		if errno := unify.Check(n); errno != api.ErrArg {
			t.Errorf("%s: %v", what, errno)
		}
	}
}

// P7.1: which types are too big. A valid type has an odd number of nodes, so
// that none has MaxType of them.
func TestCheckBig(t *testing.T) {
	for nodes, want := range map[int]api.Errno{1: api.OK, 3: api.OK, 997: api.OK, 999: api.OK, 1001: api.ErrBig, 1003: api.ErrBig, 100001: api.ErrBig} {
		wide := great(nodes, variable("a"))
		deep := con("A")
		for range (nodes - 1) / 2 {
			deep = app(con("A"), deep)
		}
		for _, n := range []api.Type{wide, deep} {
			if errno := unify.Check(n); errno != want {
				t.Errorf("%d nodes: %v, not %v", nodes, errno, want)
			}
		}
		if nodes < 3 {
			continue
		}
		// Its parts alone are not too big, or not as big.
		half := (nodes - 1) / 2
		left, right := half, nodes-1-half
		if left%2 == 0 {
			left, right = left-1, right+1
		}
		if errno := unify.Check(app(great(left, variable("a")), great(right, variable("a")))); errno != want {
			t.Errorf("%d and %d nodes: %v, not %v", left, right, errno, want)
		}
	}
}

// P7.1: what Apply answers.
func TestApply(t *testing.T) {
	for _, c := range []struct{ t, subs, want string }{
		{"a", "", "a"},
		{"A", "", "A"},
		{"a", "a = B", "B"},
		{"a", "a = B C", "B C"},
		{"a", "b = B", "a"},
		{"A", "a = B", "A"},
		{"a b", "a = A; b = B", "A B"},
		{"a (a a) a", "a = A b", "A b (A b (A b)) (A b)"},
		// A TCon is no TVar, whatever its Name.
		{"-> a (M.T a)", "a = c; M.T = d; -> = e", "-> c (M.T c)"},
		// All at once.
		{"a b", "a = b; b = a", "b a"},
		{"a b c", "a = b; b = c; c = a", "b c a"},
		{"a", "a = b; b = C", "b"},
		{"b a", "b = C; a = b", "C b"},
		{"a", "a = A a", "A a"},
		{"a a", "a = a a", "a a (a a)"},
		{"a b", "a = a; b = b", "a b"},
		// The first of two.
		{"a", "a = B; a = C", "B"},
		{"a b", "a = b; b = D; a = C; b = E", "b D"},
		{"a", "a = a; a = C", "a"},
	} {
		got := unify.Apply(read(c.t), readSubs(c.subs)...)
		if !alike(got, read(c.want)) {
			t.Errorf("%s, %s: got %s, want %s", c.t, c.subs, say(got), c.want)
		}
	}
	// A sub without a Name replaces nothing.
	if got := unify.Apply(read("a b"), api.Sub{Type: con("A")}, api.Sub{Name: "b", Type: con("B")}); !alike(got, read("a B")) {
		t.Error(got)
	}
}

// P7.1: Apply takes and answers types that are too big.
func TestApplyBig(t *testing.T) {
	for nodes := 997; nodes < 1100; nodes += 2 {
		n := great(nodes, variable("a"))
		if got := unify.Apply(n); !alike(got, n) {
			t.Error(nodes, "nodes, as they are")
		}
		if got := unify.Apply(variable("a"), api.Sub{Name: "a", Type: n}); !alike(got, n) {
			t.Error(nodes, "nodes of a sub")
		}
		if got := unify.Apply(n, api.Sub{Name: "a", Type: n}); !alike(got, great(2*nodes-1, variable("a"))) {
			t.Error(nodes, "nodes of both")
		}
	}
}

// P7.1: Apply holds every type against what is valid, also if it is not used.
func TestApplyWrong(t *testing.T) {
	zero := api.Type{}
	b := api.Sub{Name: "b", Type: con("B")}
	for what, n := range wrongTypes() {
		wrong := api.Sub{Name: "a", Type: n}
		for how, got := range map[string]api.Type{
			"alone":           unify.Apply(n),
			"with a sub":      unify.Apply(n, b),
			"as a sub":        unify.Apply(read("a b"), wrong),
			"as a first sub":  unify.Apply(read("a b"), wrong, b),
			"as a last sub":   unify.Apply(read("a b"), b, wrong),
			"unused":          unify.Apply(read("B b"), wrong),
			"for a TCon":      unify.Apply(con("a"), wrong),
			"second of two":   unify.Apply(read("a b"), api.Sub{Name: "a", Type: con("A")}, wrong),
			"without a Name":  unify.Apply(read("a b"), api.Sub{Type: n}),
			"in both":         unify.Apply(n, wrong),
			"of an equal one": unify.Apply(read("a b"), api.Sub{Name: "a", Type: read("a b")}, api.Sub{Name: "b", Type: n}),
		} {
			if !alike(got, zero) {
				t.Errorf("%s, %s: %+v", what, how, got.Kind)
			}
		}
	}
}

// P7.2: what Unify answers.
func TestUnify(t *testing.T) {
	for pairs, want := range map[string]string{
		"":                 "",
		"a b ~ A (B c)":    "a = A; b = B c",
		"a ~ b; b ~ c":     "b = a; c = a",
		"a ~ A a":          "ErrUnify",
		"A ~ B":            "ErrUnify",
		"a b ~ A":          "ErrUnify",
		"a ~ a":            "",
		"A ~ A":            "",
		"A b ~ A b":        "",
		"a ~ A":            "a = A",
		"a ~ A; b ~ B":     "a = A; b = B",
		"b ~ B; a ~ A":     "a = A; b = B",
		"a ~ A; a ~ A":     "a = A",
		"a ~ A; a ~ B":     "ErrUnify",
		"a ~ A; a ~ A b":   "ErrUnify",
		"a ~ A; A ~ B":     "ErrUnify",
		"-> a b ~ -> b A":  "a = A; b = A",
		"-> a a ~ -> A B":  "ErrUnify",
		"[] a ~ [] (A b)":  "a = A b",
		"[] a ~ (,) a b":   "ErrUnify",
		"(,) a ~ b c":      "b = (,); c = a",
		"m a ~ -> b c":     "c = a; m = -> b",
		"m a ~ n b":        "b = a; n = m",
		"m a ~ (,,) b c d": "d = a; m = (,,) b c",
		"a b ~ c (d e)":    "b = d e; c = a",
		// In A b c and d e, A b and d are the same, and c and e.
		"A b c ~ d e":             "d = A b; e = c",
		"A B ~ A C":               "ErrUnify",
		"A B ~ C B":               "ErrUnify",
		"A B C ~ A B":             "ErrUnify",
		"A (B C) ~ A B C":         "ErrUnify",
		"M.A ~ N.A":               "ErrUnify",
		"Int ~ Prim.Int":          "ErrUnify",
		"a ~ A b; b ~ B":          "a = A B; b = B",
		"a ~ A b; b ~ B a":        "ErrUnify",
		"a ~ A b; b ~ a":          "ErrUnify",
		"a ~ a a":                 "ErrUnify",
		"a ~ b; a ~ A b":          "ErrUnify",
		"a ~ A b c; c ~ a":        "ErrUnify",
		"a b ~ b a":               "b = a",
		"a b ~ b (a c)":           "ErrUnify",
		"A a b ~ A b (B a)":       "ErrUnify",
		"a ~ A b; a ~ A c":        "a = A b; c = b",
		"a ~ A b; c ~ A d; a ~ c": "a = A b; c = A b; d = b",
	} {
		wantUnified(t, want, readPairs(pairs)...)
	}
}

// P7.2: of TVars that are identified, the one with the smallest Name stays.
func TestUnifyNames(t *testing.T) {
	for pairs, want := range map[string]string{
		"c ~ b; b ~ a":                          "b = a; c = a",
		"c ~ a; b ~ a":                          "b = a; c = a",
		"d ~ c; b ~ a; c ~ b":                   "b = a; c = a; d = a",
		"d ~ c; b ~ a; d ~ a":                   "b = a; c = a; d = a",
		"c ~ d; e ~ f; g ~ h":                   "d = c; f = e; h = g",
		"a1 ~ b; a ~ a1":                        "a1 = a; b = a",
		"a10 ~ a9; a9 ~ a2":                     "a2 = a10; a9 = a10",
		"ab ~ b; a ~ ab":                        "ab = a; b = a",
		"x.1 ~ x; y ~ x":                        "x.1 = x; y = x",
		"c ~ b; b ~ a; a ~ A":                   "a = A; b = A; c = A",
		"c ~ A d; b ~ c; d ~ e; f ~ d":          "b = A d; c = A d; e = d; f = d",
		"b ~ c; c ~ B e; e ~ d; d ~ a":          "b = B a; c = B a; d = a; e = a",
		"A c ~ A b; a ~ b":                      "b = a; c = a",
		"[] d ~ [] c; (,) b c ~ (,) a d; b ~ c": "b = a; c = a; d = a",
	} {
		wantUnified(t, want, readPairs(pairs)...)
	}
	// Names are compared byte by byte.
	wantUnified(t, "a = Z", [2]api.Type{variable("a"), variable("Z")})
	wantUnified(t, "é = z", [2]api.Type{variable("é"), variable("z")})
	wantUnified(t, "\xff = é", [2]api.Type{variable("\xff"), variable("é")})
	// A TCon is no TVar, whatever its Name.
	wantUnified(t, "a = a", [2]api.Type{variable("a"), con("a")})
	wantUnified(t, "a = A a", [2]api.Type{variable("a"), app(con("A"), con("a"))})
	wantUnified(t, "ErrUnify", [2]api.Type{variable("a"), con("a")}, [2]api.Type{variable("a"), con("b")})
}

// P7.2: subs are in order, whatever the order in which they are found.
func TestUnifyOrder(t *testing.T) {
	var pairs [][2]api.Type
	want := ""
	for _, letter := range "qwertyuiopasdfghjklzxcvbnm" {
		pairs = append(pairs, [2]api.Type{variable(string(letter)), app(con("A"), con("B"))})
	}
	for letter := 'a'; letter <= 'z'; letter++ {
		want += string(letter) + " = A B; "
	}
	wantUnified(t, want[:len(want)-2], pairs...)
}

// P7.3: what Match answers.
func TestMatch(t *testing.T) {
	for pair, want := range map[string]string{
		"a a ~ A A":                     "a = A",
		"a a ~ A B":                     "ErrUnify",
		"a ~ b":                         "a = b",
		"A ~ A":                         "",
		"A ~ B":                         "ErrUnify",
		"A ~ a":                         "ErrUnify",
		"A ~ A b":                       "ErrUnify",
		"A b ~ A":                       "ErrUnify",
		"A b ~ a":                       "ErrUnify",
		"A b ~ B b":                     "ErrUnify",
		"a ~ A b c":                     "a = A b c",
		"a b ~ A (B c)":                 "a = A; b = B c",
		"b a ~ A (B c)":                 "a = B c; b = A",
		"c b a ~ A B C":                 "a = C; b = B; c = A",
		"a b ~ -> c d":                  "a = -> c; b = d",
		"-> a (-> b a) ~ -> A (-> B A)": "a = A; b = B",
		"-> a (-> b a) ~ -> A (-> B B)": "ErrUnify",
		"-> a (-> b b) ~ -> A (-> B B)": "a = A; b = B",
		// TVars that occur more often.
		"(,,) a a a ~ (,,) b b b":                   "a = b",
		"(,,) a a a ~ (,,) b b c":                   "ErrUnify",
		"(,,) a a a ~ (,,) c b b":                   "ErrUnify",
		"(,) a a ~ (,) (A b c) (A b c)":             "a = A b c",
		"(,) a a ~ (,) (A b c) (A b d)":             "ErrUnify",
		"(,) a a ~ (,) (A b c) (A B c)":             "ErrUnify",
		"(,) a a ~ (,) (A b) (A b b)":               "ErrUnify",
		"(,) a b ~ (,) c c":                         "a = c; b = c",
		"A a (B a) ~ A (C d) (B (C d))":             "a = C d",
		"A a (B a) ~ A (C d) (B (C e))":             "ErrUnify",
		"A (B a) a ~ A (B (C d)) (C d)":             "a = C d",
		"(,) (A a b) (A b a) ~ (,) (A c d) (A d c)": "a = c; b = d",
		"(,) (A a b) (A b a) ~ (,) (A c d) (A c d)": "ErrUnify",
		// TVars of u are constants, whatever they are named like.
		"a ~ a":                     "a = a",
		"a b ~ a b":                 "a = a; b = b",
		"a b ~ b a":                 "a = b; b = a",
		"a b c ~ b c a":             "a = b; b = c; c = a",
		"a ~ A a":                   "a = A a",
		"a b ~ (A a) (B b)":         "a = A a; b = B b",
		"a a ~ b b":                 "a = b",
		"a a ~ a b":                 "ErrUnify",
		"a b ~ b b":                 "a = b; b = b",
		"(,) a a ~ (,) (A a) a":     "ErrUnify",
		"(,) a b ~ (,) b (A a)":     "a = b; b = A a",
		"(,) a b ~ (,) (A b) (A b)": "a = A b; b = A b",
		"A a ~ A (a a)":             "a = a a",
	} {
		p := readPairs(pair)[0]
		if got := matched(t, p[0], p[1]); got != want {
			t.Errorf("%s: got %s, want %s", pair, got, want)
		}
	}
	// A TCon is no TVar, whatever its Name.
	for _, c := range []struct {
		t, u api.Type
		want string
	}{
		{con("a"), variable("a"), "ErrUnify"},
		{variable("a"), con("a"), "a = a"},
		{app(variable("a"), variable("a")), app(con("a"), variable("a")), "ErrUnify"},
		{app(variable("a"), con("a")), app(con("a"), con("a")), "a = a"},
	} {
		if got := matched(t, c.t, c.u); got != c.want {
			t.Errorf("%+v, %+v: %s", c.t, c.u, got)
		}
	}
	// A sub's Type has the kinds of u.
	if subs, _ := unify.Match(variable("a"), app(con("b"), variable("b"))); len(subs) != 1 || !alike(subs[0].Type, app(con("b"), variable("b"))) {
		t.Error(subs)
	}
}
