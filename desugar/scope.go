package desugar

import (
	"teasel/api"
	"teasel/typing"
)

// scope is where dictionaries are bound: the top, or what takes some ahead of its
// arguments. There those are bound that are made of these, each once.
type scope struct {
	names []string // of those that are taken
	binds []api.Bind
	known map[*typing.Dict]called
	made  map[string]called // by the names that they are made of
}

// called is what a dictionary is called.
type called struct {
	name string
}

func newScope(names ...string) *scope {
	return &scope{names: names, known: map[*typing.Dict]called{}, made: map[string]called{}}
}

// open begins what takes dictionaries.
func (t *translator) open(p *typing.Params) *scope {
	s := newScope(t.several(p.Count)...)
	t.scopes[p] = s
	return s
}

// instance is what the dictionary of a class for a constructor is called, and
// dictionary the constructor of all dictionaries of a class.
func instance(class, con string) string { return class + "#" + con }

func dictionary(class string) string { return class + "#" }

// dicts is dictionaries that a name takes where it is used.
func (t *translator) dicts(dicts []*typing.Dict) []api.Expr {
	if !t.spend(len(dicts)) {
		return nil
	}
	all := make([]api.Expr, len(dicts))
	for i, d := range dicts {
		all[i] = variable(t.dict(d))
	}
	return all
}

// dict is what a dictionary is called. Those that it is made of are bound first;
// what is left of them is kept on a stack, since they may be too many for calls
// within calls.
func (t *translator) dict(d *typing.Dict) string {
	left := []*typing.Dict{d}
	for len(left) > 0 && !t.isFull() {
		last := left[len(left)-1]
		count := len(left)
		for _, part := range last.Parts {
			if t.called(part) == "" {
				left = append(left, part)
			}
		}
		if len(left) == count {
			left = left[:count-1]
			t.make(last)
		}
	}
	return t.called(d)
}

// called is what a dictionary is called, if it is bound.
func (t *translator) called(d *typing.Dict) string {
	s := t.scopes[d.Params]
	switch {
	case d.Class == "":
		return s.names[d.At]
	case len(d.Parts) == 0:
		return instance(d.Class, d.Con)
	}
	return s.known[d].name
}

// make binds a dictionary that is made of others.
func (t *translator) make(d *typing.Dict) {
	s := t.scopes[d.Params]
	if t.called(d) != "" {
		return
	}
	var parts []string
	key := instance(d.Class, d.Con)
	for _, part := range d.Parts {
		parts = append(parts, t.called(part))
		key += " " + t.called(part)
	}
	if s.made[key].name == "" && t.spend(2+len(parts)) {
		s.made[key] = called{name: t.fresh()}
		e := app(variable(instance(d.Class, d.Con)), variables(parts...)...)
		s.binds = append(s.binds, api.Bind{Name: s.made[key].name, Expr: e})
	}
	s.known[d] = s.made[key]
}
