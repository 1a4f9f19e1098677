package match

import (
	"slices"
	"strconv"

	"teasel/api"
	"teasel/core"
)

// compiler makes the expression for rows.
type compiler struct {
	table
	columns []string
	next    int // the number of the next fresh name
}

func fresh(n int) string { return "m#" + strconv.Itoa(n) }

func (c *compiler) fresh() string {
	c.next++
	return fresh(c.next - 1)
}

// rows is for rows of which so many may go on with the next one. It starts with
// the last one, since they may be too many for calls within calls: the numbers
// of all names f and d come ahead of the others.
func (c *compiler) rows(rows []api.Row, ahead int) api.Expr {
	first := c.next
	c.next += 2 * ahead
	e := api.Expr{Kind: api.Prim, Op: api.Raise}
	if ahead < len(rows) {
		e = c.row(rows[ahead], "")
	}
	for i, row := range slices.Backward(rows[:ahead]) {
		f, d := fresh(first+2*i), fresh(first+2*i+1)
		e = api.Expr{Kind: api.Lam, Names: []string{d}, Subs: []api.Expr{e}}
		e = let(f, e, c.row(row, f))
	}
	return e
}

// row is the expression that matches a row. One that can't fail needs no f.
func (c *compiler) row(row api.Row, f string) api.Expr {
	m := matcher{compiler: c, f: f}
	for next := m.all(row.Pats, c.columns, nil); next != nil; {
		next = next()
	}
	return m.closed(core.Replace(row.Body, api.Next, continuation(f)))
}

func variable(name string) api.Expr { return api.Expr{Kind: api.Var, Name: name} }

func let(name string, e, body api.Expr) api.Expr {
	return api.Expr{Kind: api.Let, Binds: []api.Bind{{Name: name, Expr: e}}, Subs: []api.Expr{body}}
}

func continuation(f string) api.Expr {
	return api.Expr{Kind: api.App, Subs: []api.Expr{variable(f), {Kind: api.Con, Name: api.Unit}}}
}
