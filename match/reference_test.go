package match_test

import (
	"slices"
	"strconv"

	"teasel/api"
	"teasel/core"
)

// A second way to all answers, word by word as the chapter has it.

type reference struct {
	t     api.Table
	taken int // the number of the next fresh name
}

func (r *reference) con(name string) (api.Cons, bool) {
	for _, c := range r.t.Cons {
		if c.Name == name {
			return c, true
		}
	}
	return api.Cons{}, false
}

func (r *reference) place(con, name string) (int, bool) {
	for _, l := range r.t.Labels {
		if l.Name == name && l.Con == con {
			return l.Place, true
		}
	}
	return 0, false
}

func (r *reference) hasFields(name string, count int) bool {
	c, found := r.con(name)
	return found && c.Arity == count
}

func (r *reference) isPattern(n api.Node) bool {
	for _, s := range n.Subs {
		if n.Kind != api.PMake && !r.isPattern(s) {
			return false
		}
	}
	leaf := len(n.Subs) == 0
	switch n.Kind {
	case api.PVar:
		return leaf && n.Name != ""
	case api.PWild, api.PInt:
		return leaf
	case api.PStr:
		return leaf && r.hasFields("Prim.[]", 0) && (n.Name == "" || r.hasFields("Prim.:", 2))
	case api.PCon:
		return r.hasFields(n.Name, len(n.Subs))
	case api.PTup:
		return len(n.Subs) == 2 && r.hasFields("Prim.(,)", 2) || len(n.Subs) == 3 && r.hasFields("Prim.(,,)", 3)
	case api.PList:
		return r.hasFields("Prim.[]", 0) && (leaf || r.hasFields("Prim.:", 2))
	case api.PAs:
		return len(n.Subs) == 1 && n.Name != ""
	case api.PMake:
		return r.isMake(n)
	}
	return false
}

func (r *reference) isMake(n api.Node) bool {
	c, found := r.con(n.Name)
	if !found {
		return false
	}
	var places []int
	for _, f := range n.Subs {
		if f.Kind != api.EField || len(f.Subs) != 1 || !r.isPattern(f.Subs[0]) {
			return false
		}
		place, found := r.place(n.Name, f.Name)
		if !found || slices.Contains(places, place) || place < 0 || place > c.Arity-1 {
			return false
		}
		places = append(places, place)
	}
	return true
}

func (r *reference) isSure(n api.Node) bool {
	children := n.Subs
	switch n.Kind {
	case api.PVar, api.PWild:
		return true
	case api.PAs:
		return r.isSure(n.Subs[0])
	case api.PCon, api.PTup:
	case api.PMake:
		children = nil
		for _, f := range n.Subs {
			children = append(children, f.Subs[0])
		}
	default:
		return false
	}
	c, _ := r.con(r.asCon(n).Name)
	for _, child := range children {
		if !r.isSure(child) {
			return false
		}
	}
	return c.Family == 1
}

// asCon is the PCon that a PTup, PList or PStr is represented by.
func (r *reference) asCon(n api.Node) api.Node {
	switch n.Kind {
	case api.PTup:
		return pcon([]string{"Prim.(,)", "Prim.(,,)"}[len(n.Subs)-2], n.Subs...)
	case api.PStr:
		var bytes []api.Node
		for i := range len(n.Name) {
			bytes = append(bytes, num(int(n.Name[i])))
		}
		return r.asCon(list(bytes...))
	case api.PList:
		if len(n.Subs) == 0 {
			return pcon("Prim.[]")
		}
		return pcon("Prim.:", n.Subs[0], list(n.Subs[1:]...))
	}
	return n
}

func (r *reference) fresh() string {
	r.taken++
	return "m#" + strconv.Itoa(r.taken-1)
}

func refSure(t api.Table, p api.Node) bool {
	r := &reference{t: t}
	return r.isPattern(p) && r.isSure(p)
}

func refCompile(t api.Table, names []string, first int, rows ...api.Row) (api.Expr, int, api.Errno) {
	r := &reference{t: t, taken: first}
	wrong := first < 1 || slices.Contains(names, "")
	for _, row := range rows {
		wrong = wrong || len(row.Pats) != len(names)
		for _, p := range row.Pats {
			wrong = wrong || !r.isPattern(p)
		}
	}
	if wrong {
		return api.Expr{}, 0, api.ErrArg
	}
	e := r.rows(names, rows)
	return e, r.taken, api.OK
}

func (r *reference) rows(names []string, rows []api.Row) api.Expr {
	if len(rows) == 0 {
		return prim(api.Raise)
	}
	all := true
	for _, p := range rows[0].Pats {
		all = all && r.isSure(p)
	}
	if all && !slices.Contains(core.Free(rows[0].Body), api.Next) {
		return r.matches(rows[0].Pats, names, nil, func() api.Expr { return rows[0].Body })
	}
	f, d := r.fresh(), r.fresh()
	others := lam(d, r.rows(names, rows[1:]))
	goOn := app(v(f), con(api.Unit))
	body := r.matches(rows[0].Pats, names, &goOn, func() api.Expr { return core.Replace(rows[0].Body, api.Next, goOn) })
	return let(body, bind(f, others))
}

func (r *reference) matches(pats []api.Node, at []string, failure *api.Expr, rest func() api.Expr) api.Expr {
	if len(pats) == 0 {
		return rest()
	}
	return r.match(pats[0], at[0], failure, func() api.Expr { return r.matches(pats[1:], at[1:], failure, rest) })
}

func (r *reference) match(p api.Node, c string, failure *api.Expr, rest func() api.Expr) api.Expr {
	switch p.Kind {
	case api.PWild:
		return rest()
	case api.PVar:
		return let(rest(), bind(p.Name, v(c)))
	case api.PAs:
		return let(r.match(p.Subs[0], c, failure, rest), bind(p.Name, v(c)))
	case api.PInt:
		name := r.fresh()
		return cas(v(c), name, litAlt(p.N, rest()), other(*failure))
	}
	p = r.asCon(p)
	k, _ := r.con(p.Name)
	name := r.fresh()
	var fields []string
	for range k.Arity {
		fields = append(fields, r.fresh())
	}
	pats, at := p.Subs, fields
	if p.Kind == api.PMake {
		pats, at = nil, nil
		for _, f := range p.Subs {
			place, _ := r.place(p.Name, f.Name)
			pats, at = append(pats, f.Subs[0]), append(at, fields[place])
		}
	}
	inside := api.Alt{Kind: api.ConAlt, Name: p.Name, Names: fields}
	inside.Body = r.matches(pats, at, failure, rest)
	if k.Family == 1 {
		return cas(v(c), name, inside)
	}
	return cas(v(c), name, inside, other(*failure))
}
