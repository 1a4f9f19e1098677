package occur_test

import (
	"slices"

	"teasel/api"
)

// A second way to find what the chapter's words say, word by word: of each Var it
// is looked up the tree what binds its name.

// step is from an expression to one of its children.
type step struct {
	of    *api.Expr
	binds []string // the binders whose scope the child is in
}

// varsOf tells each Var with the way to it.
func varsOf(e *api.Expr, way []step, tell func(name string, way []step)) {
	if e.Kind == api.Var {
		tell(e.Name, way)
	}
	var let []string
	for _, b := range e.Binds {
		let = append(let, b.Name)
	}
	into := func(child *api.Expr, binds []string) {
		varsOf(child, append(way[:len(way):len(way)], step{e, binds}), tell)
	}
	for i := range e.Subs {
		switch e.Kind {
		case api.Lam:
			into(&e.Subs[i], e.Names)
		case api.Let:
			into(&e.Subs[i], let)
		default:
			into(&e.Subs[i], nil)
		}
	}
	for i := range e.Binds {
		into(&e.Binds[i].Expr, let)
	}
	for i := range e.Alts {
		into(&e.Alts[i].Body, append([]string{e.Name}, e.Alts[i].Names...))
	}
}

func refUses(e api.Expr, name string) (int, bool) {
	times, inside := 0, false
	varsOf(&e, nil, func(found string, way []step) {
		bound := slices.ContainsFunc(way, func(s step) bool { return slices.Contains(s.binds, name) })
		if found != name || bound {
			return
		}
		times++
		inside = inside || slices.ContainsFunc(way, func(s step) bool { return s.of.Kind == api.Lam })
	})
	return times, inside
}

func isFree(e api.Expr, name string) bool {
	times, _ := refUses(e, name)
	return times > 0
}

// refLive adds what is live for one reason or the other, until there is no more.
func refLive(body api.Expr, binds []api.Bind) []int {
	live := map[int]bool{}
	for before := -1; before < len(live); {
		before = len(live)
		for i, b := range binds {
			first := slices.IndexFunc(binds, func(other api.Bind) bool { return other.Name == b.Name })
			needed := isFree(body, b.Name)
			for j := range live {
				needed = needed || isFree(binds[j].Expr, b.Name)
			}
			if needed && i == first {
				live[i] = true
			}
		}
	}
	var all []int
	for i := range binds {
		if live[i] {
			all = append(all, i)
		}
	}
	return all
}

// refReached is the same for the names of Binds, all of which differ.
func refReached(p api.Program) []string {
	exprs := map[string]api.Expr{}
	for _, b := range p.Binds {
		exprs[b.Name] = b.Expr
	}
	reached := map[string]bool{}
	if _, found := exprs[api.Main]; found {
		reached[api.Main] = true
	}
	for before := -1; before < len(reached); {
		before = len(reached)
		for name := range exprs {
			for user := range reached {
				if isFree(exprs[user], name) {
					reached[name] = true
					break
				}
			}
		}
	}
	var all []string
	for name := range reached {
		all = append(all, name)
	}
	slices.Sort(all)
	return all
}
