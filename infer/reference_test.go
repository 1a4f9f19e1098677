package infer_test

import (
	"maps"
	"slices"
	"sort"
	"strconv"
	"strings"

	"teasel/api"
	"teasel/classes"
	"teasel/fix"
	"teasel/unify"
)

// This is type inference once more, as the chapter has it, word by word: types
// are trees, in which variables are replaced by a map. A group at the top is
// gone through several times, each time with the types of single names that the
// time before has found, until they are no others: so each part of it is looked
// at with types that are final.

func tvar(name string) api.Type { return api.Type{Kind: api.TVar, Name: name} }
func tcon(name string) api.Type { return api.Type{Kind: api.TCon, Name: name} }

func tapp(f api.Type, arguments ...api.Type) api.Type {
	for _, a := range arguments {
		f = api.Type{Kind: api.TApp, Subs: []api.Type{f, a}}
	}
	return f
}

func tfun(from, to api.Type) api.Type { return tapp(tcon("Prim.->"), from, to) }
func tlist(of api.Type) api.Type      { return tapp(tcon("Prim.[]"), of) }
func tint() api.Type                  { return tcon("Prim.Int") }
func tbool() api.Type                 { return tcon("Prim.Bool") }

func ttuple(of ...api.Type) api.Type {
	return tapp(tcon("Prim.("+strings.Repeat(",", len(of)-1)+")"), of...)
}

// typeOf is the type of a tree.
func typeOf(n api.Node) api.Type {
	if n.Kind == api.TApp {
		return tapp(typeOf(n.Subs[0]), typeOf(n.Subs[1]))
	}
	return api.Type{Kind: n.Kind, Name: n.Name}
}

// variablesOf is the variables of a type, in the order of the tree, each once.
func variablesOf(t api.Type) []string {
	switch t.Kind {
	case api.TVar:
		return []string{t.Name}
	case api.TApp:
		all := variablesOf(t.Subs[0])
		for _, v := range variablesOf(t.Subs[1]) {
			if !slices.Contains(all, v) {
				all = append(all, v)
			}
		}
		return all
	}
	return nil
}

func nodesOf(t api.Type) int {
	sum := 1
	for _, part := range t.Subs {
		sum += nodesOf(part)
	}
	return sum
}

type refScheme struct {
	of         api.Type
	single     bool
	quantified []string
	preds      []api.Pred
	fields     int
}

func closed(t api.Type, preds ...api.Pred) refScheme {
	return refScheme{of: t, quantified: variablesOf(t), preds: preds}
}

type scope map[string]refScheme

// reference is what is known of a program, and of one group at the top or DFun
// of a DInst.
type reference struct {
	insts   []api.Inst
	global  scope
	fieldOf map[string][2]int // of a DField: which DCon, and which of its fields
	conOf   []string

	subs      map[string]api.Type
	count     int
	before    map[string]api.Type
	single    map[string]api.Type
	required  []api.Pred
	bound     []string
	boundType []api.Type
	given     []api.Pred
	lacking   bool
	ambiguous bool
}

// noSolution is what leaves by panic.
type noSolution struct{}

func (r *reference) fresh() api.Type {
	r.count++
	return tvar("t" + strconv.Itoa(r.count))
}

// apply is a type as it is known.
func (r *reference) apply(t api.Type) api.Type {
	if t.Kind == api.TApp {
		return tapp(r.apply(t.Subs[0]), r.apply(t.Subs[1]))
	}
	if by, found := r.subs[t.Name]; found && t.Kind == api.TVar {
		return r.apply(by)
	}
	return t
}

func (r *reference) unify(a, b api.Type) {
	a, b = r.apply(a), r.apply(b)
	switch {
	case a.Kind == api.TVar && b.Kind == api.TVar && a.Name == b.Name:
	case a.Kind == api.TVar:
		if slices.Contains(variablesOf(b), a.Name) {
			panic(noSolution{})
		}
		r.subs[a.Name] = b
	case b.Kind == api.TVar:
		r.unify(b, a)
	case a.Kind != b.Kind || a.Name != b.Name:
		panic(noSolution{})
	case a.Kind == api.TApp:
		r.unify(a.Subs[0], b.Subs[0])
		r.unify(a.Subs[1], b.Subs[1])
	}
}

// instance replaces quantified variables.
func instance(t api.Type, by map[string]api.Type) api.Type {
	if t.Kind == api.TApp {
		return tapp(instance(t.Subs[0], by), instance(t.Subs[1], by))
	}
	if other, found := by[t.Name]; found && t.Kind == api.TVar {
		return other
	}
	return t
}

// use is the type of a name; its preds are required.
func (r *reference) use(env scope, name string, required *[]api.Pred) (api.Type, int) {
	k, found := env[name]
	if !found {
		k = r.global[name]
	}
	by := map[string]api.Type{}
	for _, v := range k.quantified {
		by[v] = r.fresh()
	}
	for _, p := range k.preds {
		*required = append(*required, api.Pred{Class: p.Class, Type: instance(r.apply(p.Type), by)})
		r.required = append(r.required, (*required)[len(*required)-1])
	}
	return instance(r.apply(k.of), by), k.fields
}

// expansion is how many preds one expands to, and those whose heads are
// variables.
func (r *reference) expansion(p api.Pred) (int, []api.Pred) {
	head, arguments := p.Type, []api.Type(nil)
	for head.Kind == api.TApp {
		arguments = append([]api.Type{head.Subs[1]}, arguments...)
		head = head.Subs[0]
	}
	if head.Kind == api.TVar {
		return 1, []api.Pred{p}
	}
	for _, g := range r.given {
		if g.Class == p.Class && g.Type.Name == head.Name && len(arguments) == 0 {
			return 1, nil
		}
	}
	for _, i := range r.insts {
		if i.Class != p.Class || i.Con != head.Name || i.Args != len(arguments) {
			continue
		}
		sum, all := 1, []api.Pred(nil)
		for _, n := range i.Needs {
			count, some := r.expansion(api.Pred{Class: n.Class, Type: arguments[n.Arg]})
			sum, all = sum+count, append(all, some...)
		}
		return sum, all
	}
	r.lacking = true
	return 1, nil
}

func (r *reference) singleOf(name string) api.Type {
	t, found := r.before[name]
	if !found {
		t = r.fresh()
	}
	r.single[name] = t
	return t
}

// names is those that a pattern, or a declaration, binds.
func namesIn(n api.Node) []string {
	var all []string
	switch n.Kind {
	case api.DFun:
		return []string{n.Name}
	case api.DPat:
		return namesIn(n.Subs[0])
	case api.PVar, api.PAs:
		all = []string{n.Name}
	}
	for _, part := range n.Subs {
		all = append(all, namesIn(part)...)
	}
	return all
}

// usedIn is the names that occur in a tree.
func usedIn(n api.Node, all map[string]int) {
	if n.Kind == api.EVar {
		all[n.Name]++
	}
	if n.Kind == api.EDo {
		all["Prelude.>>="]++
	}
	for _, part := range n.Subs {
		usedIn(part, all)
	}
}

// groups is declarations in groups, in the order in which they are processed.
func groups(declarations []api.Node) [][]api.Node {
	reach := make([]map[int]bool, len(declarations))
	for i, d := range declarations {
		reach[i] = map[int]bool{}
		used := map[string]int{}
		usedIn(d, used)
		for j, other := range declarations {
			for _, name := range namesIn(other) {
				reach[i][j] = reach[i][j] || used[name] > 0
			}
		}
	}
	for range declarations {
		for i := range declarations {
			for j := range declarations {
				for k := range declarations {
					if reach[i][j] && reach[j][k] {
						reach[i][k] = true
					}
				}
			}
		}
	}
	together := func(i, j int) bool { return i == j || reach[i][j] && reach[j][i] }
	done := map[int]int{}
	var all [][]api.Node
	for len(done) < len(declarations) {
		next := slices.IndexFunc(declarations, func(api.Node) bool { return false })
		for i := range declarations {
			ready := done[i] == 0
			for j := range declarations {
				for k := range declarations {
					if together(i, j) && reach[j][k] && !together(i, k) && done[k] == 0 {
						ready = false
					}
				}
			}
			if ready {
				next = i
				break
			}
		}
		var group []api.Node
		for j := range declarations {
			if together(next, j) {
				group = append(group, declarations[j])
				done[j] = 1
			}
		}
		all = append(all, group)
	}
	return all
}

// group is a scope with the schemes of the names of a group.
func (r *reference) group(env scope, declarations []api.Node, around *[]api.Pred) scope {
	inner, after := maps.Clone(env), maps.Clone(env)
	var names []string
	patterns := false
	for _, d := range declarations {
		patterns = patterns || d.Kind == api.DPat
		names = append(names, namesIn(d)...)
	}
	for _, name := range names {
		inner[name] = refScheme{of: r.singleOf(name), single: true}
	}
	var required []api.Pred
	for _, d := range declarations {
		if d.Kind == api.DFun {
			r.clauses(inner, d, inner[d.Name].of, &required)
		} else {
			r.unify(r.pattern(inner, inner, d.Subs[0]), r.rhs(inner, d.Subs[1], &required))
		}
	}
	outer := map[string]int{}
	for _, k := range env {
		if k.single {
			for _, v := range variablesOf(r.apply(k.of)) {
				outer[v] = 1
			}
		}
	}
	own := map[string]int{}
	for _, name := range names {
		for _, v := range variablesOf(r.apply(inner[name].of)) {
			own[v]++
		}
	}
	maps.DeleteFunc(own, func(v string, count int) bool { return patterns || outer[v] > 0 || count < len(names) })
	kept := r.sort(required, outer, own, around)
	for _, name := range names {
		k := refScheme{of: r.apply(inner[name].of)}
		for _, p := range kept {
			k.preds = append(k.preds, api.Pred{Class: p.Class, Type: r.apply(p.Type)})
			k.quantified = append(k.quantified, variablesOf(r.apply(p.Type))...)
		}
		k.quantified = append(k.quantified, variablesOf(k.of)...)
		k.quantified = slices.DeleteFunc(k.quantified, func(v string) bool { return outer[v] > 0 })
		after[name] = k
		r.bound, r.boundType = append(r.bound, name), append(r.boundType, k.of)
	}
	return after
}

// sort is the preds that the names of a group keep.
func (r *reference) sort(required []api.Pred, outer, own map[string]int, around *[]api.Pred) []api.Pred {
	var reduced, kept []api.Pred
	for _, p := range required {
		_, all := r.expansion(api.Pred{Class: p.Class, Type: r.apply(p.Type)})
		for _, p := range all {
			if !slices.ContainsFunc(reduced, func(q api.Pred) bool { return p.Class == q.Class && unify.Text(p.Type) == unify.Text(q.Type) }) {
				reduced = append(reduced, p)
			}
		}
	}
	open, not := map[string]int{}, map[string]int{}
	for _, p := range reduced {
		all := variablesOf(p.Type)
		if !slices.ContainsFunc(all, func(v string) bool { return outer[v] == 0 }) {
			*around = append(*around, p)
			continue
		}
		kept = append(kept, p)
		for _, v := range all {
			if outer[v] > 0 || own[v] > 0 {
				continue
			}
			open[v] = 1
			_, errno := classes.Default(r.insts, p)
			if p.Type.Kind != api.TVar || errno != api.OK {
				not[v] = 1
			}
		}
	}
	for v := range open {
		if not[v] > 0 {
			r.ambiguous = true
			continue
		}
		r.subs[v] = tint()
	}
	return slices.DeleteFunc(kept, func(p api.Pred) bool { return r.apply(p.Type).Kind == api.TCon })
}

func (r *reference) declarations(env scope, all []api.Node, required *[]api.Pred) scope {
	for _, group := range groups(all) {
		env = r.group(env, group, required)
	}
	return env
}

func (r *reference) clauses(env scope, d api.Node, t api.Type, required *[]api.Pred) {
	for _, clause := range d.Subs {
		inner := maps.Clone(env)
		var types []api.Type
		for _, p := range clause.Subs[0].Subs {
			types = append(types, r.pattern(env, inner, p))
		}
		result := r.rhs(inner, clause.Subs[1], required)
		for _, from := range slices.Backward(types) {
			result = tfun(from, result)
		}
		r.unify(t, result)
	}
}

func (r *reference) rhs(env scope, n api.Node, required *[]api.Pred) api.Type {
	env = r.declarations(env, n.Subs[1].Subs, required)
	t := r.fresh()
	for _, guard := range n.Subs[0].Subs {
		if guard.Subs[0].Kind != api.None {
			r.unify(tbool(), r.expression(env, guard.Subs[0], required))
		}
		r.unify(t, r.expression(env, guard.Subs[1], required))
	}
	return t
}

// split takes a function's type apart.
func split(t api.Type, count int) ([]api.Type, api.Type) {
	var all []api.Type
	for range count {
		all = append(all, t.Subs[0].Subs[1])
		t = t.Subs[1]
	}
	return all, t
}

// pattern puts its variables into a scope.
func (r *reference) pattern(env, inner scope, p api.Node) api.Type {
	part := func(n api.Node) api.Type { return r.pattern(env, inner, n) }
	switch p.Kind {
	case api.PVar, api.PAs:
		if _, found := inner[p.Name]; !found {
			inner[p.Name] = refScheme{of: r.singleOf(p.Name), single: true}
		}
		if p.Kind == api.PAs {
			r.unify(inner[p.Name].of, part(p.Subs[0]))
		}
		return inner[p.Name].of
	case api.PCon, api.PMake:
		t, count := r.use(nil, p.Name, nil)
		fields, result := split(t, count)
		if p.Kind == api.PMake {
			for _, f := range p.Subs {
				r.unify(fields[r.fieldOf[f.Name][1]], part(f.Subs[0]))
			}
			return result
		}
		if count != len(p.Subs) {
			panic(noSolution{})
		}
		for i, sub := range p.Subs {
			r.unify(fields[i], part(sub))
		}
		return result
	}
	return r.common(p, part)
}

// common is what expressions and patterns have in common.
func (r *reference) common(n api.Node, part func(api.Node) api.Type) api.Type {
	switch n.Kind {
	case api.EInt, api.PInt:
		return tint()
	case api.EStr, api.PStr:
		return tlist(tint())
	case api.ETup, api.PTup:
		var all []api.Type
		for _, sub := range n.Subs {
			all = append(all, part(sub))
		}
		return ttuple(all...)
	case api.EList, api.PList:
		t := r.fresh()
		for _, sub := range n.Subs {
			r.unify(t, part(sub))
		}
		return tlist(t)
	}
	return r.fresh()
}

func (r *reference) call(f api.Type, arguments ...api.Type) api.Type {
	for _, a := range arguments {
		t := r.fresh()
		r.unify(f, tfun(a, t))
		f = t
	}
	return f
}

func (r *reference) expression(env scope, e api.Node, required *[]api.Pred) api.Type {
	part := func(n api.Node) api.Type { return r.expression(env, n, required) }
	switch e.Kind {
	case api.EVar, api.ECon:
		t, _ := r.use(env, e.Name, required)
		return t
	case api.EApp:
		return r.call(part(e.Subs[0]), part(e.Subs[1]))
	case api.ELeft:
		return r.call(part(e.Subs[1]), part(e.Subs[0]))
	case api.ERight:
		a := r.fresh()
		return tfun(a, r.call(part(e.Subs[0]), a, part(e.Subs[1])))
	case api.ELam:
		t := r.fresh()
		lambda := api.Node{Kind: api.DFun, Subs: []api.Node{{Kind: api.DClause, Subs: []api.Node{e.Subs[0], rightSide(e.Subs[1])}}}}
		r.clauses(env, lambda, t, required)
		return t
	case api.ELet:
		return r.expression(r.declarations(env, e.Subs[0].Subs, required), e.Subs[1], required)
	case api.EIf:
		r.unify(tbool(), part(e.Subs[0]))
		t := part(e.Subs[1])
		r.unify(t, part(e.Subs[2]))
		return t
	case api.ECase:
		of, t := part(e.Subs[0]), r.fresh()
		for _, a := range e.Subs[1:] {
			clause := api.Node{Kind: api.DClause, Subs: []api.Node{list(a.Subs[0]), a.Subs[1]}}
			r.clauses(env, api.Node{Kind: api.DFun, Subs: []api.Node{clause}}, tfun(of, t), required)
		}
		return t
	case api.EDo:
		return r.statements(env, e.Subs, required)
	case api.EMake:
		con, count := r.use(env, e.Name, required)
		fields, result := split(con, count)
		for _, f := range e.Subs {
			r.unify(fields[r.fieldOf[f.Name][1]], part(f.Subs[0]))
		}
		return result
	case api.EPut:
		which := r.fieldOf[e.Subs[1].Name][0]
		con, count := r.use(env, r.conOf[which], required)
		fields, result := split(con, count)
		r.unify(result, part(e.Subs[0]))
		for _, f := range e.Subs[1:] {
			if r.fieldOf[f.Name][0] != which {
				panic(noSolution{})
			}
			r.unify(fields[r.fieldOf[f.Name][1]], part(f.Subs[0]))
		}
		return result
	}
	return r.common(e, part)
}

func (r *reference) statements(env scope, all []api.Node, required *[]api.Pred) api.Type {
	first := all[0]
	if len(all) == 1 {
		return r.expression(env, first, required)
	}
	if first.Kind == api.SLet {
		return r.statements(r.declarations(env, first.Subs[0].Subs, required), all[1:], required)
	}
	bind, _ := r.use(env, "Prelude.>>=", required)
	if first.Kind != api.SGen {
		action := r.expression(env, first, required)
		return r.call(bind, action, tfun(r.fresh(), r.statements(env, all[1:], required)))
	}
	action := r.expression(env, first.Subs[1], required)
	inner := maps.Clone(env)
	from := r.pattern(env, inner, first.Subs[0])
	return r.call(bind, action, tfun(from, r.statements(inner, all[1:], required)))
}

// attempt goes through a group, or a DFun of a DInst, once.
func (r *reference) attempt(do func(required *[]api.Pred)) (errno api.Errno) {
	defer func() {
		if what := recover(); what != nil {
			if _, known := what.(noSolution); !known {
				panic(what)
			}
			errno = api.ErrType
		}
	}()
	r.subs, r.single = map[string]api.Type{}, map[string]api.Type{}
	r.required, r.bound, r.boundType = nil, nil, nil
	r.lacking, r.ambiguous = false, false
	var required []api.Pred
	do(&required)
	for _, t := range r.boundType {
		if nodesOf(r.apply(t)) > api.MaxType {
			return api.ErrType
		}
	}
	for _, p := range r.required {
		if count, _ := r.expansion(api.Pred{Class: p.Class, Type: r.apply(p.Type)}); count > api.MaxPreds {
			return api.ErrType
		}
	}
	switch {
	case r.lacking:
		return api.ErrInstance
	case r.ambiguous:
		return api.ErrAmbiguous
	}
	return api.OK
}

// solve goes through it until no types change.
func (r *reference) solve(do func(required *[]api.Pred)) api.Errno {
	r.before = map[string]api.Type{}
	last := "none"
	for {
		errno := r.attempt(do)
		if errno == api.ErrType {
			return errno
		}
		var texts []string
		w := refNames{}
		for _, name := range slices.Sorted(maps.Keys(r.single)) {
			r.before[name] = r.apply(r.single[name])
			texts = append(texts, w.text(r.before[name]))
		}
		if next := strings.Join(texts, "; "); next == last {
			return errno
		} else {
			last = next
		}
	}
}

// refNames names variables in the order in which they occur.
type refNames map[string]string

func (w refNames) rename(t api.Type) api.Type {
	switch {
	case t.Kind == api.TApp:
		return tapp(w.rename(t.Subs[0]), w.rename(t.Subs[1]))
	case t.Kind == api.TCon && strings.HasPrefix(t.Name, "Prim."):
		return t
	case t.Kind == api.TCon:
		return tcon(t.Name[strings.Index(t.Name, ".")+1:])
	case w[t.Name] == "":
		w[t.Name] = string(rune('a' + len(w)%26))
		if n := (len(w) - 1) / 26; n > 0 {
			w[t.Name] += strconv.Itoa(n)
		}
	}
	return tvar(w[t.Name])
}

func (w refNames) text(t api.Type) string {
	return unify.Text(w.rename(t))
}

// schemeText is the text of a scheme.
func schemeText(k refScheme) string {
	w := refNames{}
	of := w.text(k.of)
	var preds [][2]string
	for _, p := range k.preds {
		argument := w.text(p.Type)
		if p.Type.Kind == api.TApp {
			argument = "(" + argument + ")"
		}
		preds = append(preds, [2]string{p.Class[strings.Index(p.Class, ".")+1:], argument})
	}
	sort.Slice(preds, func(i, j int) bool {
		return preds[i][0] < preds[j][0] || preds[i][0] == preds[j][0] && preds[i][1] < preds[j][1]
	})
	var texts []string
	for _, p := range preds {
		texts = append(texts, p[0]+" "+p[1])
	}
	switch len(texts) {
	case 0:
		return of
	case 1:
		return texts[0] + " => " + of
	}
	return "(" + strings.Join(texts, ", ") + ") => " + of
}

// prim is the given schemes of Prim.
func (r *reference) prim() {
	a, b, c := tvar("a"), tvar("b"), tvar("c")
	io := func(t api.Type) api.Type { return tapp(tcon("Prim.IO"), t) }
	unit := tcon("Prim.()")
	con := func(name string, fields int, t api.Type) {
		k := closed(t)
		k.fields = fields
		r.global["Prim."+name] = k
	}
	con("()", 0, unit)
	con("(,)", 2, tfun(a, tfun(b, ttuple(a, b))))
	con("(,,)", 3, tfun(a, tfun(b, tfun(c, ttuple(a, b, c)))))
	con(":", 2, tfun(a, tfun(tlist(a), tlist(a))))
	con("False", 0, tbool())
	con("True", 0, tbool())
	for _, name := range strings.Fields("primAdd primSub primMul primQuot primRem") {
		con(name, 0, tfun(tint(), tfun(tint(), tint())))
	}
	for _, name := range strings.Fields("primEq primLt primLe") {
		con(name, 0, tfun(tint(), tfun(tint(), tbool())))
	}
	con("primGet", 0, io(tint()))
	con("primPut", 0, tfun(tint(), io(unit)))
	con("primReturn", 0, tfun(a, io(a)))
	con("primBind", 0, tfun(io(a), tfun(tfun(a, io(b)), io(b))))
	con("primSeq", 0, tfun(a, tfun(b, b)))
	con("primRaise", 0, a)
}

func (r *reference) given1(d api.Node) {
	switch d.Kind {
	case api.DClass:
		for _, m := range d.Subs[1].Subs {
			r.global[m.Name] = closed(typeOf(m.Subs[0]), api.Pred{Class: d.Name, Type: typeOf(d.Subs[0])})
		}
	case api.DData:
		result := tcon(d.Name)
		for _, v := range d.Subs[0].Subs {
			result = tapp(result, tvar(v.Name))
		}
		for _, con := range d.Subs[1].Subs {
			t := result
			for i, part := range slices.Backward(con.Subs[0].Subs) {
				if part.Kind == api.DField {
					r.fieldOf[part.Name] = [2]int{len(r.conOf), i}
					part = part.Subs[0]
					r.global[con.Subs[0].Subs[i].Name] = closed(tfun(result, typeOf(part)))
				}
				t = tfun(typeOf(part), t)
			}
			k := closed(t)
			k.fields = len(con.Subs[0].Subs)
			r.global[con.Name] = k
			r.conOf = append(r.conOf, con.Name)
		}
	}
}

// method is what a DFun of a DInst must be.
func (r *reference) method(inst, d api.Node) func(*[]api.Pred) {
	by := map[string]api.Type{}
	of := typeOf(inst.Subs[1])
	for _, v := range variablesOf(of) {
		by[v] = tcon("some " + v)
	}
	r.given = nil
	for _, p := range inst.Subs[0].Subs {
		r.given = append(r.given, api.Pred{Class: p.Name, Type: by[p.Subs[0].Name]})
	}
	k := r.global[d.Name]
	put := map[string]api.Type{k.preds[0].Type.Name: instance(of, by)}
	for _, v := range variablesOf(k.of) {
		if _, found := put[v]; !found {
			put[v] = tcon("other " + v)
		}
	}
	t := instance(k.of, put)
	return func(required *[]api.Pred) {
		r.boundType = append(r.boundType, t)
		r.clauses(scope{}, d, t, required)
		var none []api.Pred
		r.sort(*required, nil, nil, &none)
	}
}

// referenceTypes is what Types is to answer.
func referenceTypes(mods ...api.Node) ([]api.Typed, api.Diag) {
	insts, d := classes.Insts(mods...)
	trees, _ := fix.Mend(mods...)
	if d.Number != api.OK {
		return nil, d
	}
	r := &reference{insts: insts, global: scope{}, fieldOf: map[string][2]int{}}
	r.prim()
	var all []api.Typed
	for _, tree := range trees {
		var values []api.Node
		for _, d := range tree.Subs[2].Subs {
			r.given1(d)
			if d.Kind == api.DFun || d.Kind == api.DPat {
				values = append(values, d)
			}
		}
		for _, group := range groups(values) {
			r.given = nil
			var after scope
			errno := r.solve(func(required *[]api.Pred) { after = r.group(scope{}, group, required) })
			if errno != api.OK {
				return nil, api.Diag{File: tree.Name, Line: group[0].Line, Col: group[0].Col, Number: errno}
			}
			maps.Copy(r.global, after)
		}
		for _, inst := range tree.Subs[2].Subs {
			if inst.Kind != api.DInst {
				continue
			}
			for _, d := range inst.Subs[2].Subs {
				if errno := r.solve(r.method(inst, d)); errno != api.OK {
					return nil, api.Diag{File: tree.Name, Line: d.Line, Col: d.Col, Number: errno}
				}
			}
		}
		for _, d := range values {
			for _, name := range namesIn(d) {
				all = append(all, api.Typed{Name: name, Type: schemeText(r.global[name])})
			}
		}
	}
	return all, api.Diag{}
}
