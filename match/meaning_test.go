package match_test

import (
	"fmt"
	"slices"
	"strconv"
	"strings"
	"testing"

	"teasel/api"
	"teasel/core"
	"teasel/match"
)

// thing is a value that is not evaluated yet, for plain matching.
type thing struct {
	id     int
	end    string // how a run ends that evaluates it, or nothing
	con    string // nothing for a number
	n      int
	fields []*thing
	open   bool // whether it has been evaluated
}

func (x *thing) name() string { return "v" + strconv.Itoa(x.id) }

// expr writes the number of the thing when it is evaluated.
func (x *thing) expr() api.Expr {
	e := lit(x.n)
	switch {
	case x.end == failed:
		e = prim(api.Raise)
	case x.end == endless:
		e = v(x.name())
	case x.con != "":
		e = con(x.con)
		for _, f := range x.fields {
			e.Subs = append(e.Subs, v(f.name()))
		}
	}
	return cas(prim(api.Put, lit(x.id)), "w"+strconv.Itoa(x.id), other(e))
}

// The types of what is matched.
const (
	number = iota
	bytes  // lists of numbers
	two    // a number and bytes
	three  // bytes, a two, and a letter
	letter // A, B of a number, or C of bytes and a two
	record // R of a letter, bytes and a number
	unit
	types
)

// fieldTypes is the types of the fields of a constructor.
func fieldTypes(con string) []int {
	switch con {
	case "Prim.:":
		return []int{number, bytes}
	case "Prim.(,)":
		return []int{number, bytes}
	case "Prim.(,,)":
		return []int{bytes, two, letter}
	case "B":
		return []int{number}
	case "C":
		return []int{bytes, two}
	case "R":
		return []int{letter, bytes, number}
	}
	return nil
}

func consOf(of int) []string {
	return [][]string{number: nil, bytes: {"Prim.[]", "Prim.:"}, two: {"Prim.(,)"}, three: {"Prim.(,,)"}, letter: {"A", "B", "C"}, record: {"R"}, unit: {api.Unit}}[of]
}

// player makes things, patterns and rows that fit together, and matches them
// plainly.
type player struct {
	*maker
	things []*thing
	vars   []string // of the row that is made
	count  int
	lint   bool // whether only what Lint accepts is made
	log    []string
}

func (p *player) thing(of, levels int) *thing {
	x := &thing{id: len(p.things)}
	p.things = append(p.things, x)
	switch {
	case p.Intn(25) == 0:
		x.end = pick(p.maker, failed, endless)
	case of == number:
		x.n = p.Intn(3) + 'a'
	default:
		x.con = pick(p.maker, consOf(of)...)
		if levels <= 0 {
			x.con = consOf(of)[0]
		}
		for _, f := range fieldTypes(x.con) {
			x.fields = append(x.fields, p.thing(f, levels-1))
		}
	}
	return x
}

func (p *player) fresh(letter string) string {
	p.count++
	return letter + strconv.Itoa(p.count)
}

func (p *player) variable() string {
	p.vars = append(p.vars, p.fresh("x"))
	return p.vars[len(p.vars)-1]
}

// pattern makes one for a type.
func (p *player) pattern(of, levels int) api.Node {
	switch k := p.Intn(12); {
	case k < 2:
		return wild()
	case k < 4 || levels <= 0 && of != number:
		return pvar(p.variable())
	case k < 5:
		return as(p.variable(), p.pattern(of, levels))
	}
	name := ""
	switch of {
	case number:
		return num(p.Intn(3) + 'a')
	case bytes:
		switch p.Intn(3) {
		case 0:
			return text(pick(p.maker, "", "a", "ab", "ba", "c"))
		case 1:
			l := list()
			for range p.Intn(3) {
				l.Subs = append(l.Subs, p.pattern(number, levels-1))
			}
			return l
		}
	}
	name = pick(p.maker, consOf(of)...)
	if p.Intn(2) == 0 && slices.Contains([]string{"A", "B", "C", "R"}, name) {
		return p.make(name, levels)
	}
	var subs []api.Node
	for _, f := range fieldTypes(name) {
		subs = append(subs, p.pattern(f, levels-1))
	}
	if of == two || of == three {
		return pick(p.maker, tup(subs...), pcon(name, subs...))
	}
	return pcon(name, subs...)
}

// labels is the fields of a constructor, by their places.
func labels(con string) []string {
	return map[string][]string{"B": {"b"}, "C": {"one", "two"}, "R": {"y", "z", "x"}}[con]
}

func (p *player) make(name string, levels int) api.Node {
	made := rec(name)
	places := p.Perm(len(labels(name)))
	for _, place := range places[:p.Intn(len(places)+1)] {
		made.Subs = append(made.Subs, field(labels(name)[place], p.pattern(fieldTypes(name)[place], levels-1)))
	}
	return made
}

// What a row does when its patterns have matched, and what it has noted.
type deed struct {
	force string // a variable that is evaluated then, if there is one
	goOn  bool   // whether it goes on with the next row
	way   int    // how that is said
}

func (p *player) deed() deed {
	d := deed{goOn: p.Intn(4) == 0, way: p.Intn(6)}
	if len(p.vars) > 0 && p.Intn(2) == 0 {
		d.force = pick(p.maker, p.vars...)
	}
	return d
}

// body is the Body of a row of that number.
func (p *player) body(d deed, number int) api.Expr {
	e := lit(number)
	if d.goOn {
		e = next()
	}
	switch d.way {
	case 0:
		z := p.fresh("z")
		e = let(v(z), bind(z, e))
	case 1:
		e = app(lam(p.fresh("z"), e), lit(1))
	case 2:
		e = cas(lit(1), p.fresh("z"), litAlt(1, e), other(e))
	case 3:
		z := p.fresh("z")
		e = app(lam(z, app(v(z), lit(2))), lam(p.fresh("z"), e))
	case 4:
		if !d.goOn && !p.lint {
			e = app(lam(api.Next, e), next()) // the argument is not evaluated
		}
	}
	if d.force != "" {
		e = cas(v(d.force), p.fresh("z"), other(e))
	}
	call := app(v(seen), lit(number))
	for _, x := range p.vars {
		call.Subs = append(call.Subs, v(x))
	}
	return cas(call, p.fresh("z"), other(e))
}

func (p *player) force(x *thing) {
	if !x.open {
		p.log = append(p.log, "w"+strconv.Itoa(x.id))
	}
	x.open = true
	if x.end != "" {
		panic(x.end)
	}
}

// matches is plain matching.
func (p *player) matches(n api.Node, x *thing, bound map[string]*thing) bool {
	switch n.Kind {
	case api.PWild:
		return true
	case api.PVar:
		bound[n.Name] = x
		return true
	case api.PAs:
		bound[n.Name] = x
		return p.matches(n.Subs[0], x, bound)
	case api.PInt:
		p.force(x)
		return x.n == n.N
	case api.PStr:
		p.force(x)
		if x.con == "Prim.[]" || n.Name == "" {
			return x.con == "Prim.[]" && n.Name == ""
		}
		return p.matches(num(int(n.Name[0])), x.fields[0], bound) && p.matches(text(n.Name[1:]), x.fields[1], bound)
	case api.PList:
		p.force(x)
		if x.con == "Prim.[]" || len(n.Subs) == 0 {
			return x.con == "Prim.[]" && len(n.Subs) == 0
		}
		return p.matches(n.Subs[0], x.fields[0], bound) && p.matches(list(n.Subs[1:]...), x.fields[1], bound)
	}
	p.force(x)
	if n.Kind != api.PTup && n.Name != x.con {
		return false
	}
	for i, sub := range n.Subs {
		if n.Kind == api.PMake {
			i, sub = slices.Index(labels(n.Name), sub.Name), sub.Subs[0]
		}
		if !p.matches(sub, x.fields[i], bound) {
			return false
		}
	}
	return true
}

// plainly is what is noted, and how it ends, if rows are matched one after the
// other.
func (p *player) plainly(rows []api.Row, vars [][]string, deeds []deed, columns []*thing) (log []string) {
	p.log = nil
	defer func() {
		if end, early := recover().(string); early {
			p.log = append(p.log, end)
		}
		log = p.log
	}()
	for i, r := range rows {
		bound := map[string]*thing{}
		fits := true
		for j := range r.Pats {
			if fits = p.matches(r.Pats[j], columns[j], bound); !fits {
				break
			}
		}
		if !fits {
			continue
		}
		note := "row " + strconv.Itoa(i)
		for _, x := range vars[i] {
			note += " w" + strconv.Itoa(bound[x].id)
		}
		p.log = append(p.log, note)
		if deeds[i].force != "" {
			p.force(bound[deeds[i].force])
		}
		if !deeds[i].goOn {
			p.log = append(p.log, "is "+strconv.Itoa(i))
			return
		}
	}
	panic(failed)
}

// game is rows and what they are matched against.
type game struct {
	rows    []api.Row
	names   []string
	columns []*thing
	want    []string
}

func (p *player) game() game {
	p.things, p.count = nil, 0
	var g game
	var of []int
	for range p.Intn(4) {
		of = append(of, p.Intn(types))
		g.columns = append(g.columns, p.thing(of[len(of)-1], 3))
	}
	if len(of) > 0 && p.Intn(4) == 0 { // the same one twice
		g.columns, of = append(g.columns, g.columns[0]), append(of, of[0])
	}
	for _, x := range g.columns {
		g.names = append(g.names, x.name())
	}
	var vars [][]string
	var deeds []deed
	for i := range 1 + p.Intn(4) {
		p.vars = nil
		var r api.Row
		for _, k := range of {
			r.Pats = append(r.Pats, p.pattern(k, p.Intn(4)))
		}
		d := p.deed()
		r.Body = p.body(d, i)
		g.rows, vars, deeds = append(g.rows, r), append(vars, p.vars), append(deeds, d)
	}
	g.want = p.plainly(g.rows, vars, deeds, g.columns)
	return g
}

func (p *player) whole(e api.Expr) api.Expr {
	whole := let(e)
	for _, x := range p.things {
		whole.Binds = append(whole.Binds, bind(x.name(), x.expr()))
	}
	if len(whole.Binds) == 0 {
		return e
	}
	return whole
}

func sayThings(all []*thing) string {
	s := ""
	for _, x := range all {
		s += fmt.Sprintf("v%d = %s%s %d", x.id, x.end, x.con, x.n)
		for _, f := range x.fields {
			s += " " + f.name()
		}
		s += "; "
	}
	return s
}

// P11.3: what is evaluated, in which order, and what the names of patterns refer
// to, are as in plain matching, also if values fail or do not end.
func TestMeaning(t *testing.T) {
	p := &player{maker: newMaker(5)}
	ends, rows := map[string]int{}, map[int]int{}
	for range 40000 {
		g := p.game()
		e, _, errno := match.Compile(table(), g.names, 1, g.rows...)
		if errno != api.OK {
			t.Fatal(errno, sayRows(g.rows))
		}
		if got := run(table(), p.whole(e)); !slices.Equal(got, g.want) {
			t.Fatalf("%v: %s\n%s\n%s\ngot  %q\nwant %q", g.names, sayThings(p.things), sayRows(g.rows), say(e), got, g.want)
		}
		end := g.want[len(g.want)-1]
		if strings.HasPrefix(end, "is ") {
			end = "is"
		}
		ends[end]++
		count := 0
		for _, note := range g.want {
			if strings.HasPrefix(note, "row ") {
				count++
			}
		}
		rows[count]++
	}
	t.Log(ends, rows)
	if len(ends) != 3 || ends["is"] < 10000 || ends[failed] < 5000 || ends[endless] < 1000 || rows[2] < 2000 || rows[3] < 200 {
		t.Error(ends, rows)
	}
}

// P11.3: within a program that binds each name once, Lint accepts what Compile
// answers.
func TestLint(t *testing.T) {
	p := &player{maker: newMaker(6), lint: true}
	for range 10000 {
		g := p.game()
		e, n, _ := match.Compile(table(), g.names, 1, g.rows...)
		whole := lam("s", con(api.Box, let(p.whole(e), bind(seen, lit(0)))))
		tab := table()
		program := api.Program{Cons: tab.Cons[:len(tab.Cons)-2], Binds: []api.Bind{bind(api.Main, whole)}}
		if errno := core.Lint(program); errno != api.OK {
			t.Fatalf("%v: %s", errno, say(whole))
		}
		greatest := 0
		for _, name := range core.Binders(e) {
			if digits, found := strings.CutPrefix(name, "m#"); found {
				number, _ := strconv.Atoi(digits)
				greatest = max(greatest, number)
			}
		}
		if n != greatest+1 {
			t.Fatalf("%d: %s", n, say(e))
		}
	}
}

// P11.3: some runs by hand, with values behind what is looked at that fail or do
// not end.
func TestRuns(t *testing.T) {
	raise, loop := prim(api.Raise), let(v("l"), bind("l", v("l")))
	pair := func(a, b api.Expr) api.Expr { return con("Prim.(,)", a, b) }
	link := func(a, b api.Expr) api.Expr { return con("Prim.:", a, b) }
	for _, c := range []struct {
		what string
		x, y api.Expr
		want string
		rows []api.Row
	}{
		{"nothing is evaluated", raise, loop, "is 7", []api.Row{row(lit(7), pvar("a"), wild())}},
		{"the first column fails the row", lit(1), raise, "is 8", []api.Row{row(lit(7), num(2), num(3)), row(lit(8), wild(), wild())}},
		{"the second column is looked at", lit(2), raise, failed, []api.Row{row(lit(7), num(2), num(3)), row(lit(8), wild(), wild())}},
		{"the first row is looked at", loop, lit(3), endless, []api.Row{row(lit(7), num(2), num(3)), row(lit(8), wild(), wild())}},
		{"the left one first", raise, loop, failed, []api.Row{row(lit(7), num(2), num(3))}},
		{"the left one first, again", loop, raise, endless, []api.Row{row(lit(7), num(2), num(3))}},
		{"what is behind a field", pair(lit(1), raise), loop, "is 8", []api.Row{row(lit(7), tup(num(2), num(3)), num(4)), row(lit(8), tup(wild(), wild()), wild())}},
		{"a pattern of one constructor still evaluates", raise, lit(1), failed, []api.Row{row(lit(7), tup(wild(), wild()), wild())}},
		{"so does a record without fields", loop, lit(1), endless, []api.Row{row(lit(7), rec("R"), wild())}},
		{"a longer list", link(lit('a'), raise), lit(1), failed, []api.Row{row(lit(7), text("a"), wild()), row(lit(8), wild(), wild())}},
		{"another list", link(lit('b'), raise), loop, "is 8", []api.Row{row(lit(7), text("a"), wild()), row(lit(8), wild(), wild())}},
		{"a text", link(lit('a'), link(lit(255), con("Prim.[]"))), loop, "is 7", []api.Row{row(lit(7), text("a\xff"), wild())}},
		{"the fields as they stand", con("R", con("A"), loop, raise), loop, failed, []api.Row{row(lit(7), rec("R", field("x", num(1)), field("z", list())), wild())}},
		{"the fields as they stand, otherwise", con("R", con("A"), loop, raise), loop, endless, []api.Row{row(lit(7), rec("R", field("z", list()), field("x", num(1))), wild())}},
		{"a field alone", con("R", con("A"), loop, raise), loop, "is 7", []api.Row{row(lit(7), rec("R", field("y", pcon("A"))), wild())}},
		{"no row", lit(1), lit(2), failed, []api.Row{row(lit(7), num(2), wild()), row(lit(8), wild(), num(1))}},
		{"Next ahead of what is wrong", lit(1), raise, "is 8", []api.Row{row(next(), num(1), wild()), row(lit(8), num(1), pvar("a"))}},
		{"Next of the last row", lit(1), lit(2), failed, []api.Row{row(next(), wild(), wild())}},
		{"a name's value", pair(raise, lit(5)), loop, "is 5", []api.Row{row(v("b"), as("p", tup(pvar("a"), pvar("b"))), wild())}},
		{"a whole's value", pair(raise, lit(5)), loop, "is 5", []api.Row{row(cas(v("p"), "q", conAlt("Prim.(,)", "c d", v("d"))), as("p", tup(pvar("a"), pvar("b"))), wild())}},
	} {
		e, _, errno := match.Compile(table(), []string{"x", "y"}, 1, c.rows...)
		got := run(table(), let(e, bind("x", c.x), bind("y", c.y)))
		if errno != api.OK || len(got) != 1 || got[0] != c.want {
			t.Errorf("%s: got %v %q, want %q", c.what, errno, got, c.want)
		}
	}
}
