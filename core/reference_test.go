package core_test

import (
	"regexp"
	"slices"
	"strconv"

	"teasel/api"
)

// A second way for each promise, by the chapter's words one after the other.

func childrenOf(e api.Expr) []api.Expr {
	all := slices.Clone(e.Subs)
	for _, b := range e.Binds {
		all = append(all, b.Expr)
	}
	for _, a := range e.Alts {
		all = append(all, a.Body)
	}
	return all
}

func refSize(e api.Expr) int {
	size := 1
	for _, c := range childrenOf(e) {
		size += refSize(c)
	}
	return size
}

func refDepth(e api.Expr) int {
	deepest := 0
	for _, c := range childrenOf(e) {
		deepest = max(deepest, refDepth(c))
	}
	return 1 + deepest
}

type set map[string]bool

func union(sets ...set) set {
	all := set{}
	for _, s := range sets {
		for name := range s {
			all[name] = true
		}
	}
	return all
}

func (s set) minus(names ...string) set {
	left := union(s)
	for _, name := range names {
		delete(left, name)
	}
	return left
}

func namesOf(binds []api.Bind) []string {
	var names []string
	for _, b := range binds {
		names = append(names, b.Name)
	}
	return names
}

// free is by what each Kind leaves free of what its children do.
func free(e api.Expr) set {
	if e.Kind == api.Var {
		return set{e.Name: true}
	}
	all := set{}
	for _, s := range e.Subs {
		all = union(all, free(s))
	}
	switch e.Kind {
	case api.Lam:
		return all.minus(e.Names...)
	case api.Let:
		for _, b := range e.Binds {
			all = union(all, free(b.Expr))
		}
		return all.minus(namesOf(e.Binds)...)
	case api.Case:
		for _, a := range e.Alts {
			all = union(all, free(a.Body).minus(append(slices.Clone(a.Names), e.Name)...))
		}
	}
	return all
}

func refFree(e api.Expr) []string {
	var names []string
	for name := range free(e) {
		names = append(names, name)
	}
	slices.Sort(names)
	return names
}

func refBinders(e api.Expr) []string {
	var names []string
	if e.Kind == api.Lam {
		names = append(names, e.Names...)
	}
	for _, s := range e.Subs {
		names = append(names, refBinders(s)...)
	}
	for _, b := range e.Binds {
		names = append(append(names, b.Name), refBinders(b.Expr)...)
	}
	if e.Kind == api.Case {
		names = append(names, e.Name)
	}
	for _, a := range e.Alts {
		names = append(append(names, a.Names...), refBinders(a.Body)...)
	}
	return names
}

var freshName = regexp.MustCompile(`^t#([1-9][0-9]{0,8})$`)

func refNext(p api.Program) int {
	names := namesOf(p.Binds)
	for _, b := range p.Binds {
		names = append(names, refBinders(b.Expr)...)
	}
	next := 1
	for _, name := range names {
		if found := freshName.FindStringSubmatch(name); found != nil {
			n, _ := strconv.Atoi(found[1])
			next = max(next, n+1)
		}
	}
	return next
}

func refReplace(e api.Expr, name string, by api.Expr) api.Expr {
	e = clone(e)
	inSubs := func() {
		for i := range e.Subs {
			e.Subs[i] = refReplace(e.Subs[i], name, by)
		}
	}
	switch e.Kind {
	case api.Var:
		if e.Name == name {
			return by
		}
	case api.Lam:
		if !slices.Contains(e.Names, name) {
			inSubs()
		}
	case api.Let:
		if !slices.Contains(namesOf(e.Binds), name) {
			inSubs()
			for i := range e.Binds {
				e.Binds[i].Expr = refReplace(e.Binds[i].Expr, name, by)
			}
		}
	case api.Case:
		inSubs()
		for i, a := range e.Alts {
			if e.Name != name && !slices.Contains(a.Names, name) {
				e.Alts[i].Body = refReplace(a.Body, name, by)
			}
		}
	default:
		inSubs()
	}
	return e
}

// refGroups is by what can be reached from what.
func refGroups(binds []api.Bind) [][]int {
	n := len(binds)
	uses, reach := make([][]bool, n), make([][]bool, n)
	for i := range n {
		uses[i] = make([]bool, n)
		for name := range free(binds[i].Expr) {
			if j := slices.Index(namesOf(binds), name); j >= 0 {
				uses[i][j] = true
			}
		}
		reach[i] = slices.Clone(uses[i])
	}
	for k := range n {
		for i := range n {
			for j := range n {
				reach[i][j] = reach[i][j] || reach[i][k] && reach[k][j]
			}
		}
	}
	together := func(i, j int) bool { return i == j || reach[i][j] && reach[j][i] }
	listed := make([]bool, n)
	// may says whether the group of i uses only listed ones and itself.
	may := func(i int) bool {
		for j := range n {
			for k := range n {
				if together(i, j) && uses[j][k] && !listed[k] && !together(i, k) {
					return false
				}
			}
		}
		return true
	}
	var groups [][]int
	for {
		next := slices.IndexFunc(listed, func(l bool) bool { return !l })
		if next < 0 {
			return groups
		}
		for listed[next] || !may(next) {
			next++
		}
		var group []int
		for j := range n {
			if together(next, j) {
				group = append(group, j)
				listed[j] = true
			}
		}
		groups = append(groups, group)
	}
}

// place is an expression, and what is bound where it occurs.
type place struct {
	e     api.Expr
	scope []string
}

func placesIn(e api.Expr, scope []string) []place {
	all := []place{{e, scope}}
	inner := append(scope[:len(scope):len(scope)], namesOf(e.Binds)...)
	if e.Kind == api.Lam {
		inner = append(inner, e.Names...)
	}
	for _, s := range e.Subs {
		all = append(all, placesIn(s, inner)...)
	}
	for _, b := range e.Binds {
		all = append(all, placesIn(b.Expr, inner)...)
	}
	for _, a := range e.Alts {
		all = append(all, placesIn(a.Body, append(append(scope[:len(scope):len(scope)], e.Name), a.Names...))...)
	}
	return all
}

// refLint is the eight items, each for all of p.
func refLint(p api.Program) api.Errno {
	size, depth := 0, 0
	var places []place
	binders := namesOf(p.Binds)
	for _, b := range p.Binds {
		size += refSize(b.Expr)
		depth = max(depth, refDepth(b.Expr))
		places = append(places, placesIn(b.Expr, namesOf(p.Binds))...)
		binders = append(binders, refBinders(b.Expr)...)
	}
	anywhere := func(wrong func(place) bool) bool { return slices.ContainsFunc(places, wrong) }
	slices.Sort(binders)
	switch {
	case size > 100000:
		return api.ErrBig
	case depth > 1000:
		return api.ErrDeep
	case anywhere(func(p place) bool { return !refShaped(p.e) }):
		return api.ErrShape
	case !refCons(p.Cons):
		return api.ErrCons
	case slices.Contains(binders, "") || len(slices.Compact(slices.Clone(binders))) < len(binders):
		return api.ErrName
	case anywhere(func(p place) bool { return p.e.Kind == api.Var && !slices.Contains(p.scope, p.e.Name) }):
		return api.ErrScope
	case anywhere(func(at place) bool { return !refArity(at.e, p.Cons) }) || !refOwn(p.Cons):
		return api.ErrArity
	case anywhere(func(at place) bool { return at.e.Kind == api.Case && !refAlts(at.e.Alts, p.Cons) }):
		return api.ErrAlts
	case !slices.Contains(namesOf(p.Binds), "Main.main"):
		return api.ErrNoMain
	}
	return api.OK
}

func refShaped(e api.Expr) bool {
	belongs := map[int]string{1: "Name", 2: "N", 3: "Names Subs", 4: "Subs", 5: "Binds Subs", 6: "Subs Name Alts", 7: "Name Subs", 8: "Op Subs"}[e.Kind]
	has := map[string]bool{"Name": e.Name != "", "N": e.N != 0, "Op": e.Op != 0, "Names": len(e.Names) > 0, "Subs": len(e.Subs) > 0, "Binds": len(e.Binds) > 0, "Alts": len(e.Alts) > 0}
	for field, set := range has {
		if set && !regexp.MustCompile(`\b`+field+`\b`).MatchString(belongs) {
			return false
		}
	}
	for _, a := range e.Alts {
		switch {
		case a.Kind < 1 || a.Kind > 3, a.Kind != 1 && (a.Name != "" || len(a.Names) > 0), a.Kind != 2 && a.N != 0:
			return false
		}
	}
	needsOne := e.Kind == api.Lam || e.Kind == api.Let || e.Kind == api.Case
	return belongs != "" && (!needsOne || len(e.Subs) == 1) && (e.Kind != api.Prim || e.Op >= 1 && e.Op <= 11)
}

func refCons(cons []api.Cons) bool {
	for i, c := range cons {
		for _, d := range cons[:i] {
			if c.Name == d.Name {
				return false
			}
		}
		if c.Name == "" || c.Arity < 0 || c.Arity > 100 || c.Family < 1 || c.Family > 1000 || c.Tag < 0 || c.Tag > c.Family-1 {
			return false
		}
	}
	return true
}

func refOwn(cons []api.Cons) bool {
	for _, c := range own() {
		if !slices.Contains(cons, c) {
			return false
		}
	}
	return true
}

func refArity(e api.Expr, cons []api.Cons) bool {
	fits := func(name string, count int) bool {
		return slices.ContainsFunc(cons, func(c api.Cons) bool { return c.Name == name && c.Arity == count })
	}
	for _, a := range e.Alts {
		if a.Kind == api.ConAlt && !fits(a.Name, len(a.Names)) {
			return false
		}
	}
	switch e.Kind {
	case api.Lam:
		return len(e.Names) > 0
	case api.App:
		return len(e.Subs) >= 2
	case api.Let:
		return len(e.Binds) > 0
	case api.Con:
		return fits(e.Name, len(e.Subs))
	case api.Prim:
		return len(e.Subs) == []int{0, 2, 2, 2, 2, 2, 2, 2, 2, 0, 1, 0}[e.Op]
	}
	return true
}

func refAlts(alts []api.Alt, cons []api.Cons) bool {
	family := func(name string) int {
		return cons[slices.IndexFunc(cons, func(c api.Cons) bool { return c.Name == name })].Family
	}
	for i, a := range alts {
		if a.Kind == api.Default && i < len(alts)-1 {
			return false
		}
		for _, b := range alts[:i] {
			switch {
			case a.Kind == api.ConAlt && b.Kind == api.ConAlt && (a.Name == b.Name || family(a.Name) != family(b.Name)),
				a.Kind == api.LitAlt && b.Kind == api.LitAlt && a.N == b.N,
				a.Kind == api.ConAlt && b.Kind == api.LitAlt, a.Kind == api.LitAlt && b.Kind == api.ConAlt:
				return false
			}
		}
	}
	return len(alts) > 0
}
