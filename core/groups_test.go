package core_test

import (
	"strconv"
	"strings"
	"testing"

	"teasel/api"
	"teasel/core"
)

// readBinds reads binds: a name, an = and the names that it uses, and a ;
// between any two.
func readBinds(text string) []api.Bind {
	var binds []api.Bind
	for part := range strings.SplitSeq(text, ";") {
		name, uses, found := strings.Cut(part, "=")
		if !found {
			continue
		}
		e := con("C")
		for _, u := range strings.Fields(uses) {
			e.Subs = append(e.Subs, v(u))
		}
		binds = append(binds, bind(strings.TrimSpace(name), e))
	}
	return binds
}

func sayGroups(groups [][]int) string {
	var all []string
	for _, g := range groups {
		var one []string
		for _, i := range g {
			one = append(one, strconv.Itoa(i))
		}
		all = append(all, strings.Join(one, " "))
	}
	return strings.Join(all, ", ")
}

func wantGroups(t *testing.T, want string, binds ...api.Bind) {
	t.Helper()
	if got := sayGroups(core.Groups(binds...)); got != want {
		t.Errorf("%s: got %s, want %s", sayBinds(binds), got, want)
	}
}

// P10.5: groups and their order.
func TestGroups(t *testing.T) {
	for text, want := range map[string]string{
		"":                                   "",
		"a = ":                               "0",
		"a = a":                              "0",
		"a = z":                              "0",
		"a = b; b = a; c = c; d = a":         "0 1, 2, 3",
		"a = b; b = c; c = z":                "2, 1, 0",
		"a = ; b = ; c = ":                   "0, 1, 2",
		"a = b; b = a":                       "0 1",
		"a = c; b = ; c = a":                 "0 2, 1",
		"a = b; b = ; c = ":                  "1, 0, 2",
		"a = c; b = ; c = ":                  "1, 2, 0",
		"a = d; b = ; c = b; d = c":          "1, 2, 3, 0",
		"a = b c; b = d; c = d; d = ":        "3, 1, 2, 0",
		"a = c b; b = d; c = ; d = ":         "2, 3, 1, 0",
		"a = e; b = d; c = ; d = ; e = ":     "2, 3, 1, 4, 0",
		"a = b; b = c; c = a; d = b":         "0 1 2, 3",
		"a = e; b = c; c = b; d = ; e = a d": "1 2, 3, 0 4",
		"a = f; b = e; c = d; d = c; e = b; f = a":       "0 5, 1 4, 2 3",
		"a = b d; b = c; c = b; d = e; e = d":            "1 2, 3 4, 0",
		"a = b; b = c; c = b d; d = e; e = d a":          "0 1 2 3 4",
		"c = ; b = c; a = b":                             "0, 1, 2",
		"a = ; a = a; b = a":                             "0, 1, 2",
		"a = a; a = b; b = a":                            "0, 2, 1",
		"a = b; b = ; b = a":                             "1, 0, 2",
		"a = b; b = a; b = c; c = ":                      "0 1, 3, 2",
		"a = c; b = c; c = b a a a; d = d; e = a b c d":  "0 1 2, 3, 4",
		"f = g; g = f h; h = i; i = h; j = k; k = i f":   "2 3, 0 1, 5, 4",
		"main = x y; x = y; y = x z; z = w; w = z; q = ": "3 4, 1 2, 0, 5",
	} {
		wantGroups(t, want, readBinds(text)...)
	}
}

// P10.5: a bind uses what is Free in its expression, and nothing else.
func TestUses(t *testing.T) {
	a, b, one := v("a"), v("b"), lit(1)
	for _, e := range within(b) {
		wantGroups(t, "1, 0", bind("a", e), bind("b", one))
		wantGroups(t, "0 1", bind("a", e), bind("b", a))
		wantGroups(t, "0, 1", bind("a", lam("b", e)), bind("b", one))
		wantGroups(t, "0, 1", bind("a", let(e, bind("b", e))), bind("b", one))
		wantGroups(t, "0, 1", bind("a", cas(one, "b", other(e))), bind("b", one))
		wantGroups(t, "1, 0", bind("a", app(lam("b", e), b)), bind("b", one))
		wantGroups(t, "1, 0", bind("a", cas(e, "b", other(e))), bind("b", one))
	}
	wantGroups(t, "0, 1", bind("a", con("b")), bind("b", one))
	wantGroups(t, "0, 1", bind("a", cas(one, "x", conAlt("b", "b", b))), bind("b", one))
	wantGroups(t, "1, 0", bind("a", lam("a", app(a, b))), bind("b", one))
	wantGroups(t, "1, 0", bind("", v("b")), bind("b", one))
	wantGroups(t, "0 1", bind("", v("b")), bind("b", v("")))
}
