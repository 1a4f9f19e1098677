package desugar

import "teasel/api"

// mostLevels is more than patterns may be nested.
const mostLevels = 1 << 17

// pattern is a pattern, on some level, whose variables are named otherwise.
func (t *translator) pattern(p *api.Node, level int, name func(string) string) api.Node {
	n := api.Node{Kind: p.Kind, Name: p.Name, N: p.N}
	if p.Kind == api.PVar || p.Kind == api.PAs {
		n.Name = name(p.Name)
	}
	t.count(p)
	if level > mostLevels {
		t.spend(api.MaxNodes + 1)
	}
	if t.isFull() && p.Kind != api.EField {
		return api.Node{Kind: api.PWild}
	}
	for i := range p.Subs {
		n.Subs = append(n.Subs, t.pattern(&p.Subs[i], level+1, name))
	}
	return n
}

// count counts the Cases that a pattern needs, apart from those of its children.
// A variable needs none, as it only is another name of what it matches.
func (t *translator) count(p *api.Node) {
	switch p.Kind {
	case api.PVar, api.PWild, api.PAs, api.EField:
	case api.PList:
		t.spend(1 + len(p.Subs))
	case api.PMake:
		t.fields += t.cons[p.Name].Arity
		t.spend(1)
	default:
		t.spend(1)
	}
}

// table is the constructors and fields of patterns, so that package match does
// not look at all others for each of them.
func (t *translator) table(pats ...api.Node) api.Table {
	table := api.Table{Cons: primCons()}
	known := map[string]struct{}{}
	left := [][]api.Node{pats}
	for len(left) > 0 {
		last := left[len(left)-1]
		left = left[:len(left)-1]
		for _, p := range last {
			left = append(left, p.Subs)
			if p.Kind == api.PMake {
				table.Labels = append(table.Labels, t.labels(&p)...)
			}
			if _, found := known[p.Name]; found || p.Kind != api.PCon && p.Kind != api.PMake {
				continue
			}
			known[p.Name] = struct{}{}
			table.Cons = append(table.Cons, t.cons[p.Name])
		}
	}
	return table
}

// labels is the fields that a PMake names.
func (t *translator) labels(p *api.Node) []api.Label {
	var all []api.Label
	for _, f := range p.Subs {
		all = append(all, api.Label{Name: f.Name, Con: p.Name, Place: t.places[f.Name].at})
	}
	return all
}
