package match

import "teasel/api"

// The constructors that tuples and lists stand for.
const (
	pair   = "Prim.(,)"
	triple = "Prim.(,,)"
	empty  = "Prim.[]"
	link   = "Prim.:"
)

// table is constructors by their names, and the places of fields by the names
// of the constructor and of the field. Of several the first one counts.
type table struct {
	cons   map[string]api.Cons
	places map[[2]string]int
}

func tableOf(t api.Table) table {
	all := table{cons: map[string]api.Cons{}, places: map[[2]string]int{}}
	for _, c := range t.Cons {
		if _, found := all.cons[c.Name]; !found {
			all.cons[c.Name] = c
		}
	}
	for _, l := range t.Labels {
		key := [2]string{l.Con, l.Name}
		if _, found := all.places[key]; !found {
			all.places[key] = l.Place
		}
	}
	return all
}

func (t table) has(name string, fields int) bool {
	c, found := t.cons[name]
	return found && c.Arity == fields
}

// constructorOf is the name of the constructor that a pattern stands for.
func constructorOf(p *api.Node) string {
	switch p.Kind {
	case api.PTup:
		if len(p.Subs) == 2 {
			return pair
		}
		return triple
	case api.PList:
		return listOf(len(p.Subs))
	case api.PStr:
		return listOf(len(p.Name))
	}
	return p.Name
}

// listOf is the name of the constructor of a list with so many elements.
func listOf(count int) string {
	if count == 0 {
		return empty
	}
	return link
}

// fieldsOf is the patterns within a constructor's pattern, in their order, and
// the names of the fields that they stand for; names is those of all fields.
func (t table) fieldsOf(p *api.Node, names []string) ([]api.Node, []string) {
	switch {
	case p.Kind == api.PMake:
		return t.byLabels(p, names)
	case p.Kind == api.PList && len(p.Subs) > 0:
		return []api.Node{p.Subs[0], {Kind: api.PList, Subs: p.Subs[1:]}}, names
	case p.Kind == api.PStr && p.Name != "":
		return []api.Node{{Kind: api.PInt, N: int(p.Name[0])}, {Kind: api.PStr, Name: p.Name[1:]}}, names
	}
	return p.Subs, names
}

func (t table) byLabels(p *api.Node, names []string) ([]api.Node, []string) {
	pats, at := make([]api.Node, len(p.Subs)), make([]string, len(p.Subs))
	for i, field := range p.Subs {
		pats[i], at[i] = field.Subs[0], names[t.places[[2]string{p.Name, field.Name}]]
	}
	return pats, at
}
