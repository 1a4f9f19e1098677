package kinds_test

import (
	"math/rand"
	"strings"
	"testing"

	"teasel/api"
	"teasel/fix"
	"teasel/kinds"
)

// kindIn is the kind of a type, where all variables and types have one.
func kindIn(n api.Node, variables, types scope) (term, bool) {
	switch n.Kind {
	case api.TVar:
		k, found := variables[n.Name]
		return k, found
	case api.TCon:
		k, found := types[n.Name]
		return k, found
	}
	f, right := kindIn(n.Subs[0], variables, types)
	a, alsoRight := kindIn(n.Subs[1], variables, types)
	if !right || !alsoRight || len(f.parts) == 0 || !f.parts[0].equal(a) {
		return term{}, false
	}
	return f.parts[1], true
}

func isStar(n api.Node, variables, types scope) bool {
	k, right := kindIn(n, variables, types)
	return right && k.equal(term{})
}

// variablesOf is the variables of a type, but for some.
func variablesOf(n api.Node, but scope) []string {
	var all []string
	seen := map[string]bool{}
	every([]api.Node{n}, func(n *api.Node) {
		if _, known := but[n.Name]; n.Kind == api.TVar && !known && !seen[n.Name] {
			seen[n.Name] = true
			all = append(all, n.Name)
		}
	})
	return all
}

// eachScope tells all ways to give kinds to variables, until one is taken.
func eachScope(variables []string, from []term, s scope, take func(scope) bool) bool {
	if len(variables) == 0 {
		return take(s)
	}
	for _, k := range from {
		s[variables[0]] = k
		if eachScope(variables[1:], from, s, take) {
			return true
		}
	}
	return false
}

// kindsUpTo is all kinds with at most so many stars.
func kindsUpTo(most int) []term {
	of := make([][]term, most+1)
	of[1] = []term{{}}
	all := []term{{}}
	for count := 2; count <= most; count++ {
		for first := 1; first < count; first++ {
			for _, from := range of[first] {
				for _, to := range of[count-first] {
					of[count] = append(of[count], arrowTerm(from, to))
				}
			}
		}
		all = append(all, of[count]...)
	}
	return all
}

// satisfied says whether the constraints of a DData or DClass hold. The other
// variables of a DMethod may have any of some kinds.
func satisfied(d api.Node, types, classes scope, some []term) bool {
	if d.Kind == api.DData {
		variables, k := scope{}, types[d.Name]
		for _, v := range d.Subs[0].Subs {
			variables[v.Name], k = k.parts[0], k.parts[1]
		}
		for _, c := range d.Subs[1].Subs {
			for _, n := range c.Subs[0].Subs {
				if n.Kind == api.DField {
					n = n.Subs[0]
				}
				if !isStar(n, variables, types) {
					return false
				}
			}
		}
		return true
	}
	own := d.Subs[0].Name
	for _, m := range d.Subs[1].Subs {
		used := false
		every(m.Subs, func(n *api.Node) { used = used || n.Kind == api.TVar && n.Name == own })
		variables := scope{own: classes[d.Name]}
		holds := func(s scope) bool { return isStar(m.Subs[0], s, types) }
		if !used || !eachScope(variablesOf(m.Subs[0], variables), some, variables, holds) {
			return false
		}
	}
	return true
}

// primScope is the kinds of Prim's types by their qualified names.
func primScope() scope {
	all := scope{}
	for name, k := range primTypes() {
		all["Prim."+name] = k
	}
	return all
}

// eachSolution tells all solutions for a module's DDatas and DClasses in which
// their variables have some of these kinds.
func eachSolution(owners []api.Node, from, some []term, tell func(types, classes scope)) {
	var variables []string
	for _, d := range owners {
		if d.Kind == api.DClass {
			variables = append(variables, d.Name)
			continue
		}
		for _, v := range d.Subs[0].Subs {
			variables = append(variables, d.Name+" "+v.Name)
		}
	}
	eachScope(variables, from, scope{}, func(s scope) bool {
		types, classes := primScope(), scope{}
		for _, d := range owners {
			if d.Kind == api.DClass {
				classes[d.Name] = s[d.Name]
				continue
			}
			k := term{}
			for i := len(d.Subs[0].Subs) - 1; i >= 0; i-- {
				k = arrowTerm(s[d.Name+" "+d.Subs[0].Subs[i].Name], k)
			}
			types[d.Name] = k
		}
		for _, d := range owners {
			if !satisfied(d, types, classes, some) {
				return false
			}
		}
		tell(types, classes)
		return false
	})
}

// within says whether a kind comes from another one by putting * for some of
// its parts.
func (a term) within(b term) bool {
	if len(a.parts) == 0 {
		return true
	}
	return len(b.parts) > 0 && a.parts[0].within(b.parts[0]) && a.parts[1].within(b.parts[1])
}

// smallModule is a module with few DDatas and DClasses of few variables.
func smallModule(r *rand.Rand) api.Node {
	m := &maker{Rand: r, types: scope{"Int": {}, "IO": arrowTerm(term{}, term{})}, classes: scope{}}
	var declarations []api.Node
	var names, variables []string
	for i := range 1 + r.Intn(3) {
		names = append(names, []string{"T", "U", "V"}[i])
		variables = append(variables, []string{"", "a", "a", "a b"}[r.Intn(4)])
		m.types[names[i]] = term{}
	}
	for i, name := range names {
		own := scope{}
		for _, v := range strings.Fields(variables[i]) {
			own[v] = term{}
		}
		var types []api.Node
		for range r.Intn(3) {
			types = append(types, m.wild(1+r.Intn(2), []scope{own, own, m.types}))
		}
		declarations = append(declarations, data(name, variables[i], types...))
	}
	if r.Intn(2) == 0 {
		own := scope{"a": {}, "k": {}}
		n := function(m.wild(2, []scope{{"k": {}}, own, m.types}), m.wild(1, []scope{{"k": {}}, m.types}))
		declarations = append(declarations, class("K", "k", n))
	}
	r.Shuffle(len(declarations), func(i, j int) { declarations[i], declarations[j] = declarations[j], declarations[i] })
	return module("M", declarations...)
}

// holdLeast holds what P6.3 says of a module, among the solutions with small
// kinds, and counts those.
func holdLeast(t *testing.T, m api.Node) int {
	t.Helper()
	from, some, many := kindsUpTo(3), kindsUpTo(5), kindsUpTo(9)
	all, d := kinds.Kinds(m)
	mended, wrong := fix.Mend(m)
	if wrong.Number != api.OK {
		t.Fatalf("%+v", wrong)
	}
	owners := ownersOf(mended[0])
	types, classes := primScope(), scope{}
	for i, k := range all {
		found, _ := readTerm(k.Kind)
		if owners[i].Kind == api.DClass {
			classes[k.Name] = found
		} else {
			types[k.Name] = found
		}
	}
	for _, o := range owners {
		if d.Number == api.OK && !satisfied(o, types, classes, many) {
			t.Fatalf("%+v\n%s does not satisfy %s", owners, say(all), o.Name)
		}
	}
	solutions := 0
	eachSolution(owners, from, some, func(otherTypes, otherClasses scope) {
		solutions++
		if d.Number != api.OK {
			t.Fatalf("%+v\n%+v, but there is a solution: %v %v", owners, d, otherTypes, otherClasses)
		}
		for name, k := range otherTypes {
			if !types[name].within(k) {
				t.Fatalf("%+v\n%s: %s, but it could be %s", owners, name, types[name].write(), k.write())
			}
		}
		for name, k := range otherClasses {
			if !classes[name].within(k) {
				t.Fatalf("%+v\n%s: %s, but it could be %s", owners, name, classes[name].write(), k.write())
			}
		}
	})
	return solutions
}

// P6.3: what is returned satisfies all constraints, and every other solution
// has an arrow wherever it has one. (Solutions with small kinds are tried, one
// by one.)
func TestLeastSolution(t *testing.T) {
	r := rand.New(rand.NewSource(63))
	none, one, several := 0, 0, 0
	for range 3000 {
		switch solutions := holdLeast(t, smallModule(r)); {
		case solutions == 0:
			none++
		case solutions == 1:
			one++
		default:
			several++
		}
	}
	t.Log(none, one, several)
	if none < 300 || one < 50 || several < 300 {
		t.Error("too few modules:", none, one, several)
	}
}

// P6.3: some modules with several solutions, of which one has most stars.
func TestLeastOfSeveral(t *testing.T) {
	for _, declarations := range []string{
		"data P a = Q",
		"data P a b = Q b",
		"data P f a = Q (f a)",
		"data P a = Q (P a)",
		"data P a = Q (U a)\ndata U a = R (P a)",
		"class K k",
		"class K k where m :: k a",
		"class K k where m :: f k -> f a",
		"class K k where m :: P k\ndata P a = Q",
	} {
		if solutions := holdLeast(t, tree(t, "module M where\n"+declarations)); solutions < 2 {
			t.Errorf("%q has %d solutions", declarations, solutions)
		}
	}
}
