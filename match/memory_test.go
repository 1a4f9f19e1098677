package match_test

import (
	"slices"
	"testing"

	"teasel/api"
	"teasel/match"
)

const spare = "spare" // marks memory beyond the length of a list

// roomyExpr is a copy of e, each list of which has more room than it needs.
func roomyExpr(e api.Expr) api.Expr {
	e.Names = append(append(make([]string, 0, len(e.Names)+2), e.Names...), spare, spare)[:len(e.Names)]
	e.Subs = append(append(make([]api.Expr, 0, len(e.Subs)+2), e.Subs...), v(spare), v(spare))[:len(e.Subs)]
	for i := range e.Subs {
		e.Subs[i] = roomyExpr(e.Subs[i])
	}
	e.Binds = append(append(make([]api.Bind, 0, len(e.Binds)+2), e.Binds...), bind(spare, v(spare)), bind(spare, v(spare)))[:len(e.Binds)]
	for i := range e.Binds {
		e.Binds[i].Expr = roomyExpr(e.Binds[i].Expr)
	}
	e.Alts = append(append(make([]api.Alt, 0, len(e.Alts)+2), e.Alts...), other(v(spare)), other(v(spare)))[:len(e.Alts)]
	for i := range e.Alts {
		a := &e.Alts[i]
		a.Names = append(append(make([]string, 0, len(a.Names)+2), a.Names...), spare, spare)[:len(a.Names)]
		a.Body = roomyExpr(a.Body)
	}
	return e
}

func roomyNodes(nodes []api.Node) []api.Node {
	nodes = append(append(make([]api.Node, 0, len(nodes)+2), nodes...), pvar(spare), pvar(spare))[:len(nodes)]
	for i := range nodes {
		nodes[i].Subs = roomyNodes(nodes[i].Subs)
	}
	return nodes
}

func roomyRows(rows []api.Row) []api.Row {
	rows = append(append(make([]api.Row, 0, len(rows)+2), rows...), row(v(spare)), row(v(spare)))[:len(rows)]
	for i := range rows {
		rows[i].Pats, rows[i].Body = roomyNodes(rows[i].Pats), roomyExpr(rows[i].Body)
	}
	return rows
}

func wholeExpr(e api.Expr) string {
	s := "[" + say(e)
	for _, name := range e.Names[:cap(e.Names)] {
		s += " " + name
	}
	for i, sub := range e.Subs[:cap(e.Subs)] {
		if s += " " + say(sub); i < len(e.Subs) {
			s += wholeExpr(sub)
		}
	}
	for i, b := range e.Binds[:cap(e.Binds)] {
		if s += " " + b.Name + say(b.Expr); i < len(e.Binds) {
			s += wholeExpr(b.Expr)
		}
	}
	for i, a := range e.Alts[:cap(e.Alts)] {
		if s += " " + sayAlts([]api.Alt{a}); i < len(e.Alts) {
			s += wholeExpr(a.Body)
		}
		for _, name := range a.Names[:cap(a.Names)] {
			s += " " + name
		}
	}
	return s + "]"
}

func wholeNodes(nodes []api.Node) string {
	s := "["
	for i, n := range nodes[:cap(nodes)] {
		if s += sayNode(n); i < len(nodes) {
			s += wholeNodes(n.Subs)
		}
	}
	return s + "]"
}

// wholeRows is all that stands in rows, and beyond the length of lists.
func wholeRows(rows []api.Row) string {
	s := ""
	for i, r := range rows[:cap(rows)] {
		if s += sayRows([]api.Row{r}); i < len(rows) {
			s += wholeNodes(r.Pats) + wholeExpr(r.Body)
		}
	}
	return s
}

// exprLists tells where the elements of all lists in e are, with those that
// there is room for.
func exprLists(e api.Expr, tell func(at any)) {
	names := e.Names[:cap(e.Names)]
	for i := range names {
		tell(&names[i])
	}
	subs := e.Subs[:cap(e.Subs)]
	for i := range subs {
		tell(&subs[i])
		exprLists(subs[i], tell)
	}
	binds := e.Binds[:cap(e.Binds)]
	for i := range binds {
		tell(&binds[i])
		exprLists(binds[i].Expr, tell)
	}
	alts := e.Alts[:cap(e.Alts)]
	for i := range alts {
		tell(&alts[i])
		names := alts[i].Names[:cap(alts[i].Names)]
		for j := range names {
			tell(&names[j])
		}
		exprLists(alts[i].Body, tell)
	}
}

// R2: what is handed in is left as it is, with all memory beyond the length of
// lists; what is answered shares no memory with it, with other answers, or
// within itself.
func TestApart(t *testing.T) {
	m := newMaker(70)
	for i := range 4000 {
		m.t = table()
		if i%2 == 0 {
			m.t = m.table()
		}
		rows := roomyRows(m.rows(2))
		if i%4 == 0 {
			m.spoil(rows)
		}
		if len(rows) > 1 && i%3 == 0 {
			rows[0].Body, rows[0].Pats = rows[1].Body, rows[1].Pats // shared by two rows
		}
		names := []string{"x0", "x1", spare}[:2]
		tab := api.Table{Cons: append(m.t.Cons, api.Cons{Name: spare})[:len(m.t.Cons)], Labels: append(m.t.Labels, api.Label{Name: spare})[:len(m.t.Labels)]}
		cons, labels, before := slices.Clone(tab.Cons[:len(tab.Cons)+1]), slices.Clone(tab.Labels[:len(tab.Labels)+1]), wholeRows(rows)
		one, _, _ := match.Compile(tab, names, 1, rows...)
		two, _, _ := match.Compile(tab, names, 1, rows...)
		for _, n := range nodesIn(rows) {
			match.Sure(tab, *n)
		}
		if wholeRows(rows) != before || !slices.Equal(cons, tab.Cons[:len(cons)]) || !slices.Equal(labels, tab.Labels[:len(labels)]) || !slices.Equal(names[:3], []string{"x0", "x1", spare}) {
			t.Fatalf("changed: %s", before)
		}
		taken := map[any]bool{&names[0]: true, &names[1]: true}
		for _, r := range rows {
			exprLists(r.Body, func(at any) { taken[at] = true })
		}
		apart := func(at any) {
			if taken[at] {
				t.Fatalf("%s shares memory with what was handed in, or with itself", say(one))
			}
			taken[at] = true
		}
		exprLists(one, apart)
		exprLists(two, apart)
	}
}

// R2: what is done with one answer, or with what was handed in, changes no other
// answer.
func TestKept(t *testing.T) {
	names := []string{"x", "y"}
	rows := roomyRows([]api.Row{row(app(v("p"), next()), tup(pvar("p"), list(num(1))), rec("R", field("x", as("q", wild())))), row(lam("a b", v("a")), wild(), pvar("p"))})
	tab := table()
	want, _, _ := refCompile(tab, names, 1, rows...)
	text := say(want)
	one, _, _ := match.Compile(tab, names, 1, rows...)
	two, _, _ := match.Compile(tab, names, 1, rows...)
	for _, n := range nodesIn(rows) {
		*n = api.Node{Kind: api.PVar, Name: spare}
	}
	for i := range rows {
		exprLists(rows[i].Body, scratch)
		rows[i] = row(v(spare))
	}
	for i := range tab.Cons {
		tab.Cons[i] = api.Cons{Name: spare}
	}
	names[0], names[1] = spare, spare
	if got := say(one); got != text {
		t.Errorf("got %s, want %s", got, text)
	}
	var places []any
	exprLists(one, func(at any) { places = append(places, at) })
	for _, at := range places {
		scratch(at)
	}
	if got := say(two); got != text {
		t.Errorf("got %s, want %s", got, text)
	}
}

// scratch writes over an element of a list.
func scratch(at any) {
	switch at := at.(type) {
	case *string:
		*at = spare
	case *api.Expr:
		at.Name = spare
	case *api.Bind:
		at.Name = spare
	case *api.Alt:
		at.Name = spare
	}
}

// R3: calls depend on no earlier ones, also with other tables.
func TestSameAgain(t *testing.T) {
	m := newMaker(71)
	type question struct {
		t     api.Table
		rows  []api.Row
		e     string
		n     int
		errno api.Errno
		sures []bool
	}
	ask := func(q *question) (string, int, api.Errno, []bool) {
		e, n, errno := match.Compile(q.t, []string{"x0", "x1"}, 5, q.rows...)
		var sures []bool
		for _, node := range nodesIn(q.rows) {
			sures = append(sures, match.Sure(q.t, *node))
		}
		return say(e), n, errno, sures
	}
	var all []question
	for range 500 {
		q := question{t: m.table()}
		m.t = q.t
		q.rows = m.rows(2)
		q.e, q.n, q.errno, q.sures = ask(&q)
		all = append(all, q)
	}
	for i := range slices.Backward(all) {
		q := &all[i]
		if e, n, errno, sures := ask(q); e != q.e || n != q.n || errno != q.errno || !slices.Equal(sures, q.sures) {
			t.Fatal(sayRows(q.rows))
		}
	}
}

// Calls at the same time do not disturb each other.
func TestAtOnce(t *testing.T) {
	m := newMaker(72)
	rows := []api.Row{row(next(), list(num(1), wild()), pvar("y")), row(v("y"), wild(), pvar("y"))}
	want, n, _ := refCompile(m.t, []string{"a", "b"}, 1, rows...)
	done := make(chan bool)
	for range 8 {
		go func() {
			good := true
			for range 200 {
				e, k, errno := match.Compile(m.t, []string{"a", "b"}, 1, rows...)
				good = good && errno == api.OK && k == n && equal(e, want) && !match.Sure(m.t, rows[0].Pats[0]) && match.Sure(m.t, rows[1].Pats[1])
			}
			done <- good
		}()
	}
	for range 8 {
		if !<-done {
			t.Error("another answer")
		}
	}
}
