package classes

import (
	"slices"

	"teasel/api"
)

// term is a type that is valid and not too big, so that calls within calls will
// do for it.
type term struct {
	kind               int
	name               string
	function, argument *term // of a TApp
	nodes              int
}

// terms is a set of terms, no two of which are the same type.
type terms struct {
	all   map[term]*term
	known map[*api.Type]*term // by where the Subs of a TApp are: types may share them
}

func newTerms() *terms {
	return &terms{all: map[term]*term{}, known: map[*api.Type]*term{}}
}

// add is the term of a type.
func (s *terms) add(t api.Type) *term {
	if t.Kind != api.TApp {
		return s.only(term{kind: t.Kind, name: t.Name, nodes: 1})
	}
	at := &t.Subs[0]
	if s.known[at] == nil {
		function, argument := s.add(t.Subs[0]), s.add(t.Subs[1])
		s.known[at] = s.only(term{
			kind:     api.TApp,
			function: function,
			argument: argument,
			nodes:    1 + function.nodes + argument.nodes,
		})
	}
	return s.known[at]
}

// only is the one term of the set that is like t.
func (s *terms) only(t term) *term {
	if s.all[t] == nil {
		s.all[t] = &t
	}
	return s.all[t]
}

// spine is the head of a term, and its arguments.
func (t *term) spine() (*term, []*term) {
	var arguments []*term
	for t.kind == api.TApp {
		arguments = append(arguments, t.argument)
		t = t.function
	}
	slices.Reverse(arguments)
	return t, arguments
}

// build is the type of a term, in memory of its own.
func (t *term) build() api.Type {
	if t.kind != api.TApp {
		return api.Type{Kind: t.kind, Name: t.name}
	}
	return api.Type{Kind: api.TApp, Subs: []api.Type{t.function.build(), t.argument.build()}}
}
