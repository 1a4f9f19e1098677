package stg

import (
	"slices"

	"teasel/api"
)

// seeker looks for a name that occurs once. Expressions may share memory, so it
// goes nowhere twice.
type seeker struct {
	name string
	met  map[*api.Expr]struct{}
}

// finds is whether straight ways alone lead from an expression on some level to
// the name.
func (s *seeker) finds(e *api.Expr, level int) bool {
	if e.Kind == api.Var {
		return e.Name == s.name
	}
	if _, found := s.met[e]; found || level > mostLevels {
		return false
	}
	s.met[e] = struct{}{}
	subs := e.Subs
	switch e.Kind {
	case api.App:
		subs = subs[:min(1, len(subs))]
	case api.Let:
		if slices.ContainsFunc(e.Binds, func(b api.Bind) bool { return b.Name == s.name }) {
			return false
		}
	case api.Lam, api.Con:
		return false
	}
	for i := range subs {
		if s.finds(&subs[i], level+1) {
			return true
		}
	}
	return e.Kind == api.Case && e.Name != s.name && s.findsBehind(e.Alts, level+1)
}

func (s *seeker) findsBehind(alts []api.Alt, level int) bool {
	for i := range alts {
		if !slices.Contains(alts[i].Names, s.name) && s.finds(&alts[i].Body, level) {
			return true
		}
	}
	return false
}
