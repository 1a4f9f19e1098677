package core

import (
	"slices"

	"teasel/api"
)

// replacer copies expressions with another one in place of a name.
type replacer struct {
	name  string
	by    *api.Expr
	bytes int // of by
	room  int // how many bytes more the copy may take; below 0 it is of no use
}

// copy replaces the name only where it is open: where nothing around binds it.
func (r *replacer) copy(e *api.Expr, open bool) api.Expr {
	if r.room < 0 {
		return api.Expr{}
	}
	if open && e.Kind == api.Var && e.Name == r.name {
		r.room = max(r.room-r.bytes, -1)
		return r.copy(r.by, false)
	}
	open = open && !slices.Contains(e.Names, r.name) && !slices.ContainsFunc(e.Binds, r.isBound)
	made := *e
	made.Names = slices.Clone(e.Names)
	made.Subs = slices.Clone(e.Subs)
	for i := range e.Subs {
		made.Subs[i] = r.copy(&e.Subs[i], open)
	}
	made.Binds = slices.Clone(e.Binds)
	for i := range e.Binds {
		made.Binds[i].Expr = r.copy(&e.Binds[i].Expr, open)
	}
	made.Alts = slices.Clone(e.Alts)
	for i := range e.Alts {
		made.Alts[i] = r.alternative(e.Alts[i], open && e.Name != r.name)
	}
	return made
}

func (r *replacer) alternative(alt api.Alt, open bool) api.Alt {
	open = open && !slices.Contains(alt.Names, r.name)
	alt.Names = slices.Clone(alt.Names)
	alt.Body = r.copy(&alt.Body, open)
	return alt
}

func (r *replacer) isBound(b api.Bind) bool { return b.Name == r.name }
