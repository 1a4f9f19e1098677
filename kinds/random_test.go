package kinds_test

import (
	"math/rand"
	"slices"
	"strconv"
	"strings"
	"testing"

	"teasel/api"
	"teasel/kinds"
	"teasel/parse"
)

// A maker makes random programs of some modules that import earlier ones.
type maker struct {
	*rand.Rand
	careful bool // whether nothing may be wrong
	count   int  // how many names it has made
	types   map[string]term
	classes map[string]term
}

// A scope is the kinds of variables and types, or of variables alone.
type scope map[string]term

func (m *maker) fresh(letter string) string {
	m.count++
	return letter + strconv.Itoa(m.count)
}

func (m *maker) kind(depth int) term {
	if depth <= 0 || m.Intn(5) < 3 {
		return term{}
	}
	return arrowTerm(m.kind(depth-2), m.kind(depth-1))
}

func primTypes() scope {
	all := scope{}
	for name, written := range newJudge().written {
		all[strings.TrimPrefix(name, "Prim.")], _ = readTerm(written)
	}
	return all
}

// named is the type of that name: a variable, if it begins with a small
// letter.
func typeNamed(name string) api.Node {
	if 'a' <= name[0] && name[0] <= 'z' {
		return variable(name)
	}
	return con(name)
}

// anyOf is the names of a scope, shuffled.
func (m *maker) anyOf(s scope) []string {
	var all []string
	for name := range s {
		all = append(all, name)
	}
	slices.Sort(all)
	m.Shuffle(len(all), func(i, j int) { all[i], all[j] = all[j], all[i] })
	return all
}

// reaches says whether a type of one kind, applied to arguments, can have
// another one.
func (a term) reaches(b term) bool {
	return a.equal(b) || len(a.parts) > 0 && a.parts[1].reaches(b)
}

// apply is a type applied to arguments until it has a kind, if that is
// possible.
func (m *maker) apply(n api.Node, from, to term, depth int, scopes []scope) (api.Node, bool) {
	if !from.reaches(to) {
		return n, false
	}
	for !from.equal(to) {
		if depth <= 0 {
			return n, false
		}
		argument, found := m.typeOf(from.parts[0], depth-1, scopes)
		if !found {
			return n, false
		}
		n, from = applied(n, argument), from.parts[1]
	}
	return n, true
}

// typeOf is a type of that kind from variables and types, if there is one.
func (m *maker) typeOf(k term, depth int, scopes []scope) (api.Node, bool) {
	if !m.careful && m.Intn(60) == 0 {
		return m.wild(2, scopes), true
	}
	order := slices.Clone(scopes)
	m.Shuffle(len(order), func(i, j int) { order[i], order[j] = order[j], order[i] })
	for _, s := range order {
		for _, name := range m.anyOf(s) {
			if n, found := m.apply(typeNamed(name), s[name], k, depth, scopes); found {
				return n, true
			}
		}
	}
	return api.Node{}, false
}

// wild is a type of any kind, or of none.
func (m *maker) wild(depth int, scopes []scope) api.Node {
	if depth > 0 && m.Intn(2) == 0 {
		return applied(m.wild(depth-1, scopes), m.wild(depth-1, scopes))
	}
	all := m.anyOf(scopes[m.Intn(len(scopes))])
	if len(all) == 0 {
		return con("Int")
	}
	return typeNamed(all[0])
}

// starType is a type that is meant to have the kind *.
func (m *maker) starType(scopes ...scope) api.Node {
	n, found := m.typeOf(term{}, 1+m.Intn(3), scopes)
	if !found {
		return con("Int")
	}
	return n
}

// dataOf is a DData whose variables are meant to have these kinds.
func (m *maker) dataOf(name string, variables []string, k term) api.Node {
	own := scope{}
	for _, v := range variables {
		own[v], k = k.parts[0], k.parts[1]
	}
	var cons []api.Node
	for range m.Intn(3) {
		var parts []api.Node
		fields := m.Intn(3) == 0
		for range m.Intn(4) {
			n := m.starType(own, m.types)
			if fields {
				n = call(api.DField, m.fresh("l"), n)
			}
			parts = append(parts, n)
		}
		cons = append(cons, call(api.DCon, m.fresh("C"), list(parts...)))
	}
	var vs []api.Node
	for _, v := range variables {
		vs = append(vs, variable(v))
	}
	return call(api.DData, name, list(vs...), list(cons...))
}

// classOf is a DClass whose variable is meant to have that kind.
func (m *maker) classOf(name string, k term) api.Node {
	var methods []api.Node
	for range m.Intn(4) {
		own := scope{"k": k}
		for i := range m.Intn(3) {
			own[string("abc"[i])] = m.kind(3)
		}
		n, found := m.apply(variable("k"), k, term{}, 3, []scope{own, m.types})
		if !found || !m.careful && m.Intn(40) == 0 {
			n = con("Int")
		}
		if !found && m.careful {
			continue
		}
		for range m.Intn(3) {
			if other := m.starType(own, m.types); m.Intn(2) == 0 {
				n = function(other, n)
			} else {
				n = function(n, other)
			}
		}
		methods = append(methods, call(api.DMethod, m.fresh("m"), n))
	}
	return call(api.DClass, name, variable("k"), list(methods...))
}

// instanceOf is a DInst of a class for a type, if there is one.
func (m *maker) instanceOf() (api.Node, bool) {
	for _, class := range m.anyOf(m.classes) {
		for _, name := range m.anyOf(m.types) {
			if name != "IO" && name[0] != 'T' {
				continue
			}
			n, k, own := con(name), m.types[name], scope{}
			wrong := !m.careful && m.Intn(8) == 0
			for !k.equal(m.classes[class]) && len(k.parts) > 0 && !(wrong && m.Intn(2) == 0) {
				v := m.fresh("v")
				n, own[v], k = applied(n, variable(v)), k.parts[0], k.parts[1]
			}
			if wrong || k.equal(m.classes[class]) {
				return instance(class, n, m.preds(own)...), true
			}
		}
	}
	return api.Node{}, false
}

// preds is DPreds of variables.
func (m *maker) preds(own scope) []api.Node {
	var all []api.Node
	for _, v := range m.anyOf(own) {
		for _, class := range m.anyOf(m.classes) {
			if own[v].equal(m.classes[class]) && m.Intn(2) == 0 || !m.careful && m.Intn(40) == 0 {
				all = append(all, call(api.DPred, class, variable(v)))
			}
		}
	}
	return all
}

// widest is how many variables a DData has.
func (m *maker) widest() int {
	if m.Intn(80) == 0 {
		return 58 + m.Intn(6)
	}
	if !m.careful && m.Intn(60) == 0 {
		return 62 + m.Intn(5)
	}
	return m.Intn(4)
}

// knowType makes a type one of those that are used, but for wide ones, with
// which types would become too great for the second way.
func (m *maker) knowType(name string, k term) {
	if stars(k.write()) < 20 {
		m.types[name] = k
	}
}

// owners is DDatas and DClasses that use one another.
func (m *maker) owners() []api.Node {
	meant := map[string]term{}
	variables := map[string][]string{}
	var names []string
	for range 1 + m.Intn(5) {
		name := m.fresh([]string{"T", "T", "K"}[m.Intn(3)])
		names = append(names, name)
		meant[name] = m.kind(4)
		if name[0] == 'K' {
			continue
		}
		meant[name] = term{}
		count := m.widest()
		for i := range count {
			variables[name] = append(variables[name], "v"+strconv.Itoa(i))
			k := term{}
			if count < 10 {
				k = m.kind(3)
			}
			meant[name] = arrowTerm(k, meant[name])
		}
		m.knowType(name, meant[name])
	}
	var all []api.Node
	for _, name := range names {
		if name[0] == 'K' {
			all = append(all, m.classOf(name, meant[name]))
		} else {
			all = append(all, m.dataOf(name, variables[name], meant[name]))
		}
	}
	return all
}

// learn looks up the kinds that a module's DDatas and DClasses have come to,
// as far as those that it was made with say, and leaves the meant ones where
// something is wrong.
func (m *maker) learn(mods []api.Node) {
	all, _ := answer(mods)
	for _, k := range all {
		_, name, _ := strings.Cut(k.Name, ".")
		found, _ := readTerm(k.Kind)
		if name[0] == 'K' {
			m.classes[name] = found
		} else {
			m.knowType(name, found)
		}
	}
}

// program is modules, in any order. Each imports all earlier ones. Positions
// count up in the tree, or are random, and few.
func (m *maker) program() []api.Node {
	m.types, m.classes = primTypes(), scope{}
	var mods []api.Node
	var names []string
	for range 1 + m.Intn(3) {
		name := string("ZAMBQ"[len(mods)])
		declarations := m.owners()
		mods = append(mods, importing(module(name, declarations...), names...))
		m.learn(mods)
		for range m.Intn(4) {
			if d, found := m.instanceOf(); found {
				declarations = append(declarations, d)
			}
		}
		m.Shuffle(len(declarations), func(i, j int) { declarations[i], declarations[j] = declarations[j], declarations[i] })
		mods[len(mods)-1] = importing(module(name, declarations...), names...)
		names = append(names, name)
	}
	m.Shuffle(len(mods), func(i, j int) { mods[i], mods[j] = mods[j], mods[i] })
	place, few := 0, m.Intn(2) == 0
	every(mods, func(n *api.Node) {
		place++
		n.Line, n.Col = place/7, place%7
		if few {
			n.Line, n.Col = m.Intn(5), m.Intn(5)
		}
	})
	return mods
}

// every tells all nodes of trees. The trees must not share lists.
func every(nodes []api.Node, tell func(n *api.Node)) {
	for i := range nodes {
		tell(&nodes[i])
		every(nodes[i].Subs, tell)
	}
}

// eachProgram tells random programs and what Kinds must answer for them.
func eachProgram(t *testing.T, count int, careful bool, tell func(mods []api.Node, want []api.Kinded, wrong api.Diag)) {
	t.Helper()
	m := &maker{Rand: rand.New(rand.NewSource(6)), careful: careful}
	for range count {
		mods := m.program()
		if slices.ContainsFunc(mods, func(n api.Node) bool { return !parse.Right(n) }) {
			t.Fatalf("not Right: %+v", mods)
		}
		want, d := answer(mods)
		tell(mods, want, d)
	}
}

func holdSame(t *testing.T, mods []api.Node, want []api.Kinded, wrong api.Diag) {
	t.Helper()
	got, d := kinds.Kinds(mods...)
	if d != wrong || !slices.Equal(got, want) {
		t.Fatalf("%+v\ngot  %+v %s\nwant %+v %s", mods, d, say(got), wrong, say(want))
	}
}

// P6.1: random programs without errors have the kinds that the second way
// finds.
func TestRandomPrograms(t *testing.T) {
	seen := map[string]int{}
	eachProgram(t, 1500, true, func(mods []api.Node, want []api.Kinded, wrong api.Diag) {
		if wrong.Number != api.OK {
			t.Fatalf("%+v\n%+v", mods, wrong)
		}
		holdSame(t, mods, want, wrong)
		for _, k := range want {
			seen[k.Kind]++
		}
	})
	if len(seen) < 50 || seen["(* -> *) -> *"] < 20 || seen["(* -> *) -> * -> *"] < 5 {
		t.Error("too few kinds:", len(seen), seen)
	}
}

// wrongSort says what is wrong with a program: the kind of what is at the
// place of an error, or more than one if several are there.
func wrongSort(mods []api.Node, d api.Diag) string {
	if d.Number != api.ErrKind {
		return d.Number.Error()
	}
	sort := ""
	for _, m := range mods {
		for _, n := range m.Subs[2].Subs {
			if m.Name != d.File || n.Line != d.Line || n.Col != d.Col {
				continue
			}
			sort += map[int]string{api.DData: "data ", api.DClass: "class ", api.DInst: "instance "}[n.Kind]
			if n.Kind == api.DData && len(n.Subs[0].Subs) > 63 {
				sort += "great "
			}
		}
	}
	return sort
}

// P6.2: likewise random programs with errors.
func TestRandomErrors(t *testing.T) {
	sorts, files := map[string]int{}, map[string]int{}
	eachProgram(t, 4000, false, func(mods []api.Node, want []api.Kinded, wrong api.Diag) {
		holdSame(t, mods, want, wrong)
		sorts[wrongSort(mods, wrong)]++
		files[wrong.File]++
	})
	t.Log(sorts, files)
	for _, sort := range []string{"error 0", "data ", "class ", "instance ", "data great "} {
		if sorts[sort] < 20 {
			t.Errorf("%q was seen %d times", sort, sorts[sort])
		}
	}
	for _, file := range []string{"", "Z", "A", "M"} {
		if files[file] < 20 {
			t.Errorf("%q was seen %d times", file, files[file])
		}
	}
}

// P6.1: kinds do not depend on the order of declarations, nor on that of
// modules, nor on variables' names.
func TestOrderDoesNotMatter(t *testing.T) {
	r := rand.New(rand.NewSource(61))
	eachProgram(t, 300, true, func(mods []api.Node, want []api.Kinded, _ api.Diag) {
		for i := range mods {
			declarations := mods[i].Subs[2].Subs
			r.Shuffle(len(declarations), func(i, j int) { declarations[i], declarations[j] = declarations[j], declarations[i] })
		}
		r.Shuffle(len(mods), func(i, j int) { mods[i], mods[j] = mods[j], mods[i] })
		every(mods, func(n *api.Node) {
			if n.Kind == api.TVar {
				n.Name = "x" + n.Name
			}
		})
		got, d := kinds.Kinds(mods...)
		if d != (api.Diag{}) {
			t.Fatalf("%+v\n%+v", mods, d)
		}
		byName := func(a, b api.Kinded) int { return strings.Compare(a.Name, b.Name) }
		slices.SortFunc(got, byName)
		want = slices.Clone(want)
		slices.SortFunc(want, byName)
		if !slices.Equal(got, want) {
			t.Fatalf("%+v\ngot  %s\nwant %s", mods, say(got), say(want))
		}
	})
}
