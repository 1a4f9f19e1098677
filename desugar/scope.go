package desugar

import (
	"teasel/api"
	"teasel/typing"
)

// scope is where dictionaries, or types, are bound: the top, or what takes some
// ahead of its arguments. There those are bound that are made of these, each once.
type scope struct {
	names []string // of those that are taken
	binds []api.Bind
	known map[*typing.Arg]called
	made  map[string]called // by the names that they are made of
}

// called is what a dictionary or type is called.
type called struct {
	name string
}

func newScope(names ...string) *scope {
	return &scope{names: names, known: map[*typing.Arg]called{}, made: map[string]called{}}
}

// open begins what takes dictionaries or types.
func (t *translator) open(p *typing.Params) *scope {
	s := newScope(t.several(p.Count)...)
	t.scopes[p] = s
	return s
}

// instance is what the dictionary of a class for a constructor is called, and
// dictionary the constructor of all dictionaries of a class.
func instance(class, con string) string { return class + "#" + con }

func dictionary(class string) string { return class + "#" }

// args is what a name takes where it is used.
func (t *translator) args(args []*typing.Arg) []api.Expr {
	if !t.spend(len(args)) {
		return nil
	}
	all := make([]api.Expr, len(args))
	for i, a := range args {
		all[i] = variable(t.arg(a))
	}
	return all
}

// arg is what a dictionary or type is called. Those that it is made of are bound
// first; what is left of them is kept on a stack, since they may be too many for
// calls within calls.
func (t *translator) arg(a *typing.Arg) string {
	left := []*typing.Arg{a}
	for len(left) > 0 && !t.isFull() {
		last := left[len(left)-1]
		count := len(left)
		for _, part := range last.Parts {
			if t.called(part) == "" {
				left = append(left, part)
			}
		}
		if len(left) == count {
			left = left[:count-1]
			t.make(last)
		}
	}
	return t.called(a)
}

// called is what a dictionary or type is called, if it is bound.
func (t *translator) called(a *typing.Arg) string {
	s := t.scopes[a.Params]
	switch {
	case a.Kind == typing.Taken:
		return s.names[a.At]
	case len(a.Parts) == 0:
		return maker(a)
	}
	return s.known[a].name
}

// maker is what makes a dictionary or type of its parts, or is it, if there are
// none.
func maker(a *typing.Arg) string {
	switch a.Kind {
	case typing.Constructor:
		return typeValue(a.Con)
	case typing.Applied:
		return applyType
	case typing.Unknown:
		return unknownType
	}
	return instance(a.Class, a.Con)
}

// make binds a dictionary or type that is made of others.
func (t *translator) make(a *typing.Arg) {
	s := t.scopes[a.Params]
	if t.called(a) != "" {
		return
	}
	var parts []string
	key := maker(a)
	for _, part := range a.Parts {
		parts = append(parts, t.called(part))
		key += " " + t.called(part)
	}
	if s.made[key].name == "" && t.spend(2+len(parts)) {
		s.made[key] = called{name: t.fresh()}
		e := app(variable(maker(a)), variables(parts...)...)
		s.binds = append(s.binds, api.Bind{Name: s.made[key].name, Expr: e})
	}
	s.known[a] = s.made[key]
}
