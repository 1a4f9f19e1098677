package stg_test

import (
	"fmt"
	"slices"
	"strconv"
	"strings"
	"testing"

	"teasel/api"
	"teasel/core"
	"teasel/stg"
)

// holdResult holds of what Of has made of a program that it has no fields that do
// not belong to a Kind, and P16.5; and where its fresh names are taken.
func holdResult(t *testing.T, p api.Program, q api.SProgram) {
	t.Helper()
	l := &looker{top: map[string]bool{}, bound: map[string]bool{}}
	for _, b := range p.Binds {
		l.top[b.Name] = true
	}
	for _, b := range q.Binds { // those of fields of constructors stand at the top as well
		l.top[b.Name] = true
	}
	l.binds(q.Binds)
	if len(l.faults) > 0 && core.Next(p) < 1e9 { // a name with ten digits may be there
		t.Fatalf("%s:\n%s\n%s", sayProgram(p), saySBinds(q.Binds), strings.Join(l.faults, "\n"))
	}
	for i, name := range freshIn(p, q) {
		if want := "t#" + strconv.Itoa(core.Next(p)+i); name != want {
			t.Fatalf("%s:\n%s\n%s where %s is to be bound", sayProgram(p), saySBinds(q.Binds), name, want)
		}
	}
}

// looker looks through what Of has made.
type looker struct {
	top, bound map[string]bool
	faults     []string
}

func (l *looker) hold(ok bool, what string, of any) {
	if !ok {
		l.faults = append(l.faults, fmt.Sprintf("%s: %+v", what, of))
	}
}

func (l *looker) bind(names ...string) {
	for _, name := range names {
		l.hold(name != "" && !l.bound[name], "bound twice", name)
		l.bound[name] = true
	}
}

func (l *looker) atoms(atoms []api.Atom) {
	for _, a := range atoms {
		l.hold(a.Name == "" || a.N == 0, "both a name and a number", a)
	}
}

func (l *looker) binds(binds []api.SBind) {
	for _, b := range binds {
		l.bind(b.Name)
		l.atoms(b.Args)
		switch b.Kind {
		case api.SCell:
			l.hold(b.Con != "" && len(b.Free)+len(b.Params)+len(b.Body) == 0 && !b.Update, "no cell", b)
			continue
		case api.SFun:
			l.hold(len(b.Params) > 0 && !b.Update, "no function", b)
			l.bind(b.Params...)
		case api.SThunk:
			l.hold(len(b.Params) == 0, "no thunk", b)
		default:
			l.hold(false, "no bind", b)
		}
		l.hold(b.Con == "" && len(b.Args) == 0 && len(b.Body) == 1, "no closure", b)
		if len(b.Body) == 1 {
			l.expr(b.Body[0])
			free := slices.DeleteFunc(freeOf(b.Body[0]), func(name string) bool { return l.top[name] || slices.Contains(b.Params, name) })
			l.hold(slices.Equal(b.Free, free), "other Free than "+strings.Join(free, " "), b)
		}
	}
}

func (l *looker) expr(e api.Stg) {
	args, subs, binds, alts := len(e.Args), len(e.Subs), len(e.Binds), len(e.Alts)
	l.atoms(e.Args)
	switch e.Kind {
	case api.SAtom:
		l.hold(e.Name == "" && e.Op == 0 && args == 1 && subs+binds+alts == 0, "no atom", e)
	case api.SCall:
		l.hold(e.Name != "" && e.Op == 0 && args > 0 && subs+binds+alts == 0, "no call", e)
	case api.SCon:
		l.hold(e.Name != "" && e.Op == 0 && subs+binds+alts == 0, "no constructor", e)
	case api.SPrim:
		l.hold(e.Name == "" && e.Op >= api.Add && e.Op <= api.Raise && subs+binds+alts == 0, "no Prim", e)
	case api.SCase:
		l.hold(e.Op == 0 && args+binds == 0 && subs == 1 && alts > 0, "no Case", e)
		l.bind(e.Name)
	case api.SRec:
		l.hold(e.Name == "" && e.Op == 0 && args+alts == 0 && subs == 1 && binds > 0, "no Rec", e)
		l.binds(e.Binds)
	default:
		l.hold(false, "no expression", e)
	}
	for _, s := range e.Subs {
		l.expr(s)
	}
	for _, a := range e.Alts {
		isCon, isLit := a.Kind == api.ConAlt, a.Kind == api.LitAlt
		l.hold((isCon || isLit || a.Kind == api.Default) && (isCon == (a.Name != "")) && (isCon || len(a.Names) == 0) && (isLit || a.N == 0), "no alternative", a)
		l.bind(a.Names...)
		l.expr(a.Body)
	}
}

// freeOf is the free names of an expression of STG, rising.
func freeOf(e api.Stg) []string {
	made := stg.Core(api.SProgram{Binds: []api.SBind{{Name: "x", Kind: api.SThunk, Body: []api.Stg{e}}}})
	return core.Free(made.Binds[0].Expr)
}

// freshIn is the names that p does not have, in the order in which they are bound
// in the result, read from its beginning, a name ahead of those in what it is bound
// to.
func freshIn(p api.Program, q api.SProgram) []string {
	r := &reader{known: map[string]bool{}}
	for _, b := range p.Binds {
		r.known[b.Name] = true
		for _, name := range core.Binders(b.Expr) {
			r.known[name] = true
		}
	}
	r.binds(q.Binds)
	return r.names
}

type reader struct {
	known map[string]bool
	names []string
}

func (r *reader) bind(name string) {
	if !r.known[name] {
		r.names = append(r.names, name)
	}
}

// tree is a bind, and those ahead of it that are its fields.
type tree struct {
	bind   api.SBind
	fields []tree
}

// binds puts the binds of fields, which stand ahead, behind the name of their cell.
func (r *reader) binds(binds []api.SBind) {
	var trees []tree
	for _, b := range binds {
		count := 0
		for _, a := range b.Args {
			if at := slices.IndexFunc(trees, func(t tree) bool { return t.bind.Name == a.Name }); at >= 0 && !r.known[a.Name] {
				count++
			}
		}
		cut := len(trees) - count
		trees = append(trees[:cut], tree{b, slices.Clone(trees[cut:])})
	}
	for _, t := range trees {
		r.tree(t)
	}
}

func (r *reader) tree(t tree) {
	r.bind(t.bind.Name)
	for _, field := range t.fields {
		r.tree(field)
	}
	for _, e := range t.bind.Body {
		r.expr(e)
	}
}

func (r *reader) expr(e api.Stg) {
	if e.Kind == api.SCase {
		r.bind(e.Name)
	}
	r.binds(e.Binds)
	for _, s := range e.Subs {
		r.expr(s)
	}
	for _, a := range e.Alts {
		r.expr(a.Body)
	}
}
