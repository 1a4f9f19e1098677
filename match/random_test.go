package match_test

import (
	"math/rand"
	"slices"
	"strconv"
	"testing"

	"teasel/api"
	"teasel/match"
)

// maker makes random tables, patterns and rows.
type maker struct {
	*rand.Rand
	t api.Table
}

func newMaker(seed int64) *maker {
	return &maker{Rand: rand.New(rand.NewSource(seed)), t: table()}
}

func pick[T any](m *maker, all ...T) T { return all[m.Intn(len(all))] }

// table makes one that lacks some of what it might have, or has something
// twice or otherwise.
func (m *maker) table() api.Table {
	t := table()
	for range m.Intn(4) {
		c := &t.Cons[m.Intn(len(t.Cons))]
		switch m.Intn(5) {
		case 0:
			c.Arity = m.Intn(5) - 1
		case 1, 2:
			c.Family = m.Intn(4)
		case 3:
			c.Name = t.Cons[m.Intn(len(t.Cons))].Name
		case 4:
			t.Labels[m.Intn(len(t.Labels))] = api.Label{Name: pick(m, "x", "y", "z", "b", "one"), Con: c.Name, Place: m.Intn(4)}
		}
	}
	if m.Intn(3) == 0 {
		m.Shuffle(len(t.Cons), func(i, j int) { t.Cons[i], t.Cons[j] = t.Cons[j], t.Cons[i] })
		m.Shuffle(len(t.Labels), func(i, j int) { t.Labels[i], t.Labels[j] = t.Labels[j], t.Labels[i] })
	}
	return t
}

func (m *maker) patterns(count, levels int) []api.Node {
	var all []api.Node
	for range count {
		all = append(all, m.pattern(levels))
	}
	return all
}

func (m *maker) leaf() api.Node {
	switch m.Intn(6) {
	case 0:
		return num(m.Intn(5) - 1)
	case 1:
		return text(pick(m, "", "a", "bc"))
	case 2:
		return list()
	case 3:
		return wild()
	}
	return pvar(pick(m, "y", "z", "w", api.Next, "m#3"))
}

// pattern makes one that mostly is right for the table.
func (m *maker) pattern(levels int) api.Node {
	if levels <= 1 || m.Intn(6) == 0 {
		return m.leaf()
	}
	levels--
	switch m.Intn(6) {
	case 0:
		return as(pick(m, "y", "z", "w"), m.pattern(levels))
	case 1:
		return tup(m.patterns(pick(m, 2, 2, 2, 2, 3, 3, 3, 3, 1+m.Intn(4)), levels)...)
	case 2:
		return list(m.patterns(m.Intn(4), levels)...)
	case 3, 4:
		c := pick(m, m.t.Cons...)
		return pcon(c.Name, m.patterns(max(c.Arity, 0), levels)...)
	}
	return m.labelled(levels)
}

func (m *maker) labelled(levels int) api.Node {
	p := rec(pick(m, m.t.Cons...).Name)
	taken := map[int]bool{}
	for range m.Intn(4) {
		l := pick(m, m.t.Labels...)
		if (l.Con == p.Name || m.Intn(40) == 0) && (l.Place >= 0 && l.Place < 3 && !taken[l.Place] || m.Intn(30) == 0) {
			taken[l.Place] = true
			p.Subs = append(p.Subs, field(l.Name, m.pattern(levels)))
		}
	}
	return p
}

// nodesIn is where all nodes of rows are.
func nodesIn(rows []api.Row) []*api.Node {
	var all []*api.Node
	var walk func(nodes []api.Node)
	walk = func(nodes []api.Node) {
		for i := range nodes {
			all = append(all, &nodes[i])
			walk(nodes[i].Subs)
		}
	}
	for i := range rows {
		walk(rows[i].Pats)
	}
	return all
}

// spoil changes something in the nodes of rows.
func (m *maker) spoil(rows []api.Row) {
	nodes := nodesIn(rows)
	if len(nodes) == 0 {
		return
	}
	n := pick(m, nodes...)
	switch m.Intn(6) {
	case 0:
		n.Kind = pick(m, api.PVar, api.PWild, api.PInt, api.PStr, api.PCon, api.POps, api.PTup, api.PList, api.PAs, api.PMake, api.EField, api.EVar)
	case 1:
		n.Name = pick(m, "", "R", "B", "x", "Prim.:")
	case 2:
		if len(n.Subs) > 0 {
			n.Subs = slices.Delete(n.Subs, 0, 1)
		}
	case 3:
		n.Subs = append(n.Subs, wild())
	case 4:
		*n = field("x", *n)
	case 5:
		if len(n.Subs) > 0 {
			n.Subs = append(n.Subs, n.Subs[0])
		}
	}
}

// body makes a Body, in which Next may be free or bound.
func (m *maker) body(levels int) api.Expr {
	if levels <= 1 {
		return pick(m, lit(m.Intn(9)), v("y"), next(), v("x1"))
	}
	levels--
	name := pick(m, "u", "y", "u", api.Next)
	switch m.Intn(6) {
	case 0:
		return lam("q "+name, m.body(levels))
	case 1:
		return let(m.body(levels), bind(name, m.body(levels)))
	case 2:
		return cas(m.body(levels), name, conAlt("B", pick(m, "q", api.Next), m.body(levels)), other(m.body(levels)))
	case 3:
		return con(api.Box, m.body(levels))
	case 4:
		return prim(api.Add, m.body(levels), m.body(levels))
	}
	return app(m.body(levels), m.body(levels))
}

// rows makes rows for so many columns.
func (m *maker) rows(columns int) []api.Row {
	var rows []api.Row
	easy := m.Intn(2) == 0 // rows that are irrefutable more often
	for range m.Intn(5) {
		r := row(m.body(1 + m.Intn(3)))
		for range columns {
			p := wild()
			if !easy || m.Intn(3) > 0 {
				p = m.pattern(1 + m.Intn(4))
			}
			r.Pats = append(r.Pats, p)
		}
		rows = append(rows, r)
	}
	return rows
}

// P11.1, P11.2: random rows, and what becomes of them by changes, against the
// second way.
func TestRandomRows(t *testing.T) {
	m := newMaker(1)
	errors, sures, long := 0, 0, 0
	const times = 40000
	for i := range times {
		m.t = table()
		if i%2 == 0 {
			m.t = m.table()
		}
		var names []string
		for j := range m.Intn(4) {
			names = append(names, "x"+strconv.Itoa(j))
		}
		rows := m.rows(len(names))
		if i%4 == 0 {
			m.spoil(rows)
		}
		if wantAsReference(t, m.t, names, 1+m.Intn(12), rows...) != api.OK {
			errors++
		} else if len(rows) > 2 {
			long++
		}
		for _, n := range nodesIn(rows) {
			got := match.Sure(m.t, *n)
			if got != refSure(m.t, *n) {
				t.Fatal(sayNode(*n), got)
			}
			if got && len(n.Subs) > 0 {
				sures++
			}
		}
	}
	t.Log(errors, sures, long)
	if errors < times/20 || errors > times/2 || sures < times/10 || long < times/10 {
		t.Error(errors, sures, long)
	}
}
