package match_test

import (
	"testing"

	"teasel/api"
	"teasel/match"
)

func wantSure(t *testing.T, want bool, tab api.Table, p api.Node) {
	t.Helper()
	if got := match.Sure(tab, p); got != want {
		t.Errorf("%s: got %v, want %v", sayNode(p), got, want)
	}
	if got := refSure(tab, p); got != want {
		t.Errorf("%s: by the second way %v, want %v", sayNode(p), got, want)
	}
}

// P11.2: each sort of pattern, alone and within others. (What is no pattern is
// asked with the reasons of ErrArg.)
func TestSure(t *testing.T) {
	sure := []api.Node{wild(), pvar("y"), as("y", wild()), as("y", as("z", pvar("w"))), pcon("U"), pcon(api.Unit), pcon("R", wild(), pvar("y"), wild()), pcon(api.Box, wild()), tup(wild(), wild()), tup(wild(), pvar("y"), wild()), pcon("Prim.(,)", wild(), wild()),
		rec("R"), rec("U"), rec("R", field("x", wild())), rec("R", field("y", pvar("y")), field("x", wild()), field("zz", wild()))}
	not := []api.Node{num(0), num(1), text(""), text("a"), list(), list(wild()), list(wild(), wild()), pcon("A"), pcon("B", wild()), pcon("C", wild(), wild()), pcon("Prim.[]"), pcon("Prim.:", wild(), wild()), pcon(api.True),
		rec("A"), rec("B"), rec("B", field("b", wild())), rec("C", field("one", wild()), field("two", wild()))}
	for want, all := range map[bool][]api.Node{true: sure, false: not} {
		for _, p := range all {
			wantSure(t, want, table(), p)
			for _, q := range sure {
				wantSure(t, want, table(), as("y", p))
				wantSure(t, want, table(), tup(p, q))
				wantSure(t, want, table(), tup(q, p))
				wantSure(t, want, table(), tup(q, q, p))
				wantSure(t, want, table(), pcon("R", p, q, q))
				wantSure(t, want, table(), pcon("R", q, q, p))
				wantSure(t, want, table(), pcon(api.Box, p))
				wantSure(t, want, table(), rec("R", field("z", p)))
				wantSure(t, want, table(), rec("R", field("x", q), field("y", q), field("z", p)))
				wantSure(t, want, table(), as("y", tup(q, pcon(api.Box, rec("R", field("y", as("z", p)))))))
				wantSure(t, false, table(), pcon("B", p))
				wantSure(t, false, table(), pcon("C", q, p))
				wantSure(t, false, table(), list(p))
				wantSure(t, false, table(), list(q, p))
				wantSure(t, false, table(), rec("C", field("two", p)))
			}
		}
	}
}

// P11.2: the Family tells, and nothing else of the first constructor of a name.
func TestSureFamilies(t *testing.T) {
	for _, family := range []int{1, 2, 3, 0, -1, 1000} {
		for _, tag := range []int{0, 1} {
			tab := api.Table{Labels: []api.Label{{Name: "k", Con: "K"}}}
			for _, name := range []string{"K", "Prim.(,)", "Prim.(,,)", "Prim.[]", "Prim.:"} {
				c := api.Cons{Name: name, Tag: tag, Family: family, Arity: map[string]int{"K": 1, "Prim.(,)": 2, "Prim.(,,)": 3, "Prim.:": 2}[name]}
				tab.Cons = append(tab.Cons, c, api.Cons{Name: name, Family: 3 - family, Arity: c.Arity})
			}
			want := family == 1
			wantSure(t, want, tab, pcon("K", wild()))
			wantSure(t, want, tab, rec("K"))
			wantSure(t, want, tab, rec("K", field("k", wild())))
			wantSure(t, want, tab, tup(wild(), wild()))
			wantSure(t, want, tab, tup(wild(), wild(), wild()))
			wantSure(t, want, tab, pcon("Prim.[]"))
			wantSure(t, want, tab, pcon("Prim.:", wild(), wild()))
			for _, p := range []api.Node{list(), list(wild()), text(""), text("a")} {
				wantSure(t, false, tab, p)
				wantSure(t, false, tab, as("y", p))
				wantSure(t, false, tab, tup(wild(), p))
			}
		}
	}
}
