package unify_test

import (
	"slices"
	"strings"

	"teasel/api"
)

// This is a second way to unify, match and write types, word by word as the
// chapter says: equations are solved one by one by putting what a TVar stands
// for wherever it occurs.

func nodesOf(t api.Type) int {
	count := 1
	for _, s := range t.Subs {
		count += nodesOf(s)
	}
	return count
}

// variablesOf is the Names of the TVars of types, each once and in order.
func variablesOf(types ...api.Type) []string {
	var all []string
	for _, t := range types {
		if t.Kind == api.TVar {
			all = append(all, t.Name)
		}
		all = append(all, variablesOf(t.Subs...)...)
	}
	slices.Sort(all)
	return slices.Compact(all)
}

// A mapping is what TVars stand for.
type mapping map[string]api.Type

func (m mapping) apply(t api.Type) api.Type {
	if to, found := m[t.Name]; found && t.Kind == api.TVar {
		return to
	}
	if t.Kind != api.TApp {
		return t
	}
	return app(m.apply(t.Subs[0]), m.apply(t.Subs[1]))
}

// unifies says whether a mapping makes the types of all pairs the same.
func (m mapping) unifies(pairs [][2]api.Type) bool {
	return !slices.ContainsFunc(pairs, func(p [2]api.Type) bool { return !alike(m.apply(p[0]), m.apply(p[1])) })
}

// subs is those of the TVars that do not stand for themselves.
func (m mapping) subs() []api.Sub {
	var all []api.Sub
	for name, t := range m {
		if !alike(t, variable(name)) {
			all = append(all, api.Sub{Name: name, Type: t})
		}
	}
	slices.SortFunc(all, func(a, b api.Sub) int { return strings.Compare(a.Name, b.Name) })
	return all
}

func mappingOf(subs []api.Sub) mapping {
	m := mapping{}
	for _, s := range subs {
		m[s.Name] = s.Type
	}
	return m
}

// solve is the most general mapping that unifies pairs, if there is one.
func solve(pairs [][2]api.Type) (mapping, bool) {
	m := mapping{}
	for len(pairs) > 0 {
		a, b := m.apply(pairs[0][0]), m.apply(pairs[0][1])
		pairs = pairs[1:]
		if b.Kind == api.TVar && (a.Kind != api.TVar || a.Name < b.Name) {
			a, b = b, a
		}
		switch {
		case alike(a, b):
		case a.Kind == api.TVar && slices.Contains(variablesOf(b), a.Name):
			return nil, false
		case a.Kind == api.TVar:
			one := mapping{a.Name: b}
			for name, t := range m {
				m[name] = one.apply(t)
			}
			m[a.Name] = b
		case a.Kind != api.TApp || b.Kind != api.TApp:
			return nil, false
		default:
			pairs = append([][2]api.Type{{a.Subs[0], b.Subs[0]}, {a.Subs[1], b.Subs[1]}}, pairs...)
		}
	}
	return m, true
}

// solveMatch is what the TVars of t must stand for to make it u, if it is
// possible.
func solveMatch(t, u api.Type) (mapping, bool) {
	m := mapping{}
	var match func(t, u api.Type) bool
	match = func(t, u api.Type) bool {
		if t.Kind == api.TVar {
			to, found := m[t.Name]
			m[t.Name] = u
			return !found || alike(to, u)
		}
		if t.Kind != u.Kind || t.Name != u.Name {
			return false
		}
		return t.Kind != api.TApp || match(t.Subs[0], u.Subs[0]) && match(t.Subs[1], u.Subs[1])
	}
	return m, match(t, u)
}

// applied is what a type is applied to, if it is a TCon of that Name with so
// many arguments.
func applied(t api.Type, name string, count int) ([]api.Type, bool) {
	var all []api.Type
	for t.Kind == api.TApp {
		all = append([]api.Type{t.Subs[1]}, all...)
		t = t.Subs[0]
	}
	return all, t.Kind == api.TCon && t.Name == name && len(all) == count
}

func isArrow(t api.Type) bool {
	_, is := applied(t, "Prim.->", 2)
	return is
}

// isClosed says whether a text needs no parentheses.
func isClosed(t api.Type) bool {
	_, list := applied(t, "Prim.[]", 1)
	_, two := applied(t, "Prim.(,)", 2)
	_, three := applied(t, "Prim.(,,)", 3)
	return t.Kind != api.TApp || list || two || three
}

func textOf(t api.Type) string {
	enclosed := func(t api.Type, unless bool) string {
		if unless {
			return textOf(t)
		}
		return "(" + textOf(t) + ")"
	}
	var texts []string
	if t.Kind == api.TVar {
		return t.Name
	}
	if t.Kind == api.TCon {
		return strings.TrimPrefix(t.Name, "Prim.")
	}
	if parts, is := applied(t, "Prim.->", 2); is {
		return enclosed(parts[0], !isArrow(parts[0])) + " -> " + textOf(parts[1])
	}
	if parts, is := applied(t, "Prim.[]", 1); is {
		return "[" + textOf(parts[0]) + "]"
	}
	for count, name := range map[int]string{2: "Prim.(,)", 3: "Prim.(,,)"} {
		if parts, is := applied(t, name, count); is {
			for _, p := range parts {
				texts = append(texts, textOf(p))
			}
			return "(" + strings.Join(texts, ", ") + ")"
		}
	}
	return enclosed(t.Subs[0], !isArrow(t.Subs[0])) + " " + enclosed(t.Subs[1], isClosed(t.Subs[1]))
}
