package match_test

import (
	"math"
	"slices"
	"strconv"
	"strings"
	"testing"
	"time"

	"teasel/api"
	"teasel/match"
)

// hold20 holds that something ends within some time.
func hold20(t *testing.T, what string, do func()) {
	t.Helper()
	start := time.Now()
	do()
	if took := time.Since(start); took > 20*time.Second {
		t.Errorf("%s took %v", what, took)
	}
}

// nested is a pattern in which the same stands so many times, one in another.
func nested(times int, inner api.Node, around func(api.Node) api.Node) api.Node {
	for range times {
		inner = around(inner)
	}
	return inner
}

// chains is ways to put a pattern into another one, and how many fresh names
// each takes; those of the second map never are irrefutable.
func chains() (sure, not map[string]func(api.Node) api.Node, fresh map[string]int) {
	sure = map[string]func(api.Node) api.Node{
		"PAs":   func(p api.Node) api.Node { return as("y", p) },
		"PTup":  func(p api.Node) api.Node { return tup(p, wild()) },
		"PTup3": func(p api.Node) api.Node { return tup(wild(), pvar("y"), p) },
		"PCon":  func(p api.Node) api.Node { return pcon(api.Box, p) },
		"PMake": func(p api.Node) api.Node { return rec("R", field("x", p)) },
	}
	not = map[string]func(api.Node) api.Node{
		"PList": func(p api.Node) api.Node { return list(p) },
		"B":     func(p api.Node) api.Node { return pcon("B", p) },
		"tail":  func(p api.Node) api.Node { return pcon("Prim.:", wild(), p) },
		"C":     func(p api.Node) api.Node { return rec("C", field("two", p)) },
	}
	fresh = map[string]int{"PAs": 0, "PTup": 3, "PTup3": 4, "PCon": 2, "PMake": 4, "PList": 4, "B": 2, "tail": 3, "C": 3}
	return
}

// spine is how many Lets and Cases stand around the Body of a row, and the Body.
func spine(e api.Expr) (int, api.Expr) {
	for count := 0; ; count++ {
		switch e.Kind {
		case api.Let:
			e = e.Subs[0]
		case api.Case:
			e = e.Alts[0].Body
		default:
			return count, e
		}
	}
}

// R4: patterns may have 2^16 levels.
func TestDeep(t *testing.T) {
	const levels = 1<<16 - 10
	sure, not, fresh := chains()
	for what, around := range sure {
		times := levels
		if what == "PMake" {
			times /= 2
		}
		hold20(t, what, func() {
			deep := nested(times, pvar("z"), around)
			if !match.Sure(table(), deep) || match.Sure(table(), nested(times, num(1), around)) || match.Sure(table(), nested(times, pvar(""), around)) {
				t.Error(what)
			}
			e, n, errno := match.Compile(table(), []string{"c"}, 1, row(v("z"), deep))
			if errno != api.OK || n != 1+times*fresh[what] || !equal(endOf(e), v("z")) {
				t.Error(what, errno, n)
			}
			e, n, errno = match.Compile(table(), []string{"c"}, 1, row(v("z"), nested(times, num(1), around)), row(next(), deep))
			if errno != api.OK || n != 6+2*times*fresh[what] || e.Kind != api.Let || !equal(endOf(e), v("z")) || !equal(endOf(e.Binds[0].Expr.Subs[0]), app(v("m#3"), con(api.Unit))) {
				t.Error(what, errno, n)
			}
			wantErrArg(t, what, table(), []string{"c"}, 1, row(lit(1), nested(times, pcon("B"), around)))
		})
	}
	for what, around := range not {
		times := levels
		if what == "C" {
			times /= 2
		}
		hold20(t, what, func() {
			deep := nested(times, pvar("z"), around)
			e, n, errno := match.Compile(table(), []string{"c", "d"}, 1, row(v("z"), deep, num(5)))
			if match.Sure(table(), deep) || errno != api.OK || n != 4+times*fresh[what] || !equal(endOf(e), v("z")) {
				t.Error(what, errno, n)
			}
			wantErrArg(t, what, table(), []string{"c"}, 1, row(lit(1), nested(times, tup(), around)))
		})
	}
}

func endOf(e api.Expr) api.Expr {
	_, end := spine(e)
	return end
}

// R4: so may Bodies; with more, calls still end.
func TestDeepBodies(t *testing.T) {
	deep := func(levels int) api.Expr {
		e := next()
		for range levels {
			e = app(e, lit(1))
		}
		return e
	}
	hold20(t, "Bodies", func() {
		e, n, errno := match.Compile(table(), []string{"c"}, 1, row(deep(1<<16-10), num(5)), row(deep(1<<16-10), pvar("y")))
		if errno != api.OK || n != 6 {
			t.Fatal(errno, n)
		}
		for _, c := range []struct {
			e api.Expr
			f string
		}{{e.Subs[0].Alts[0].Body, "m#1"}, {e.Binds[0].Expr.Subs[0].Subs[0].Subs[0], "m#3"}} {
			for range 1<<16 - 10 {
				c.e = c.e.Subs[0]
			}
			if !equal(c.e, app(v(c.f), con(api.Unit))) {
				t.Error(say(c.e))
			}
		}
		for _, levels := range []int{1<<17 + 10, 1000000} {
			wantErrArg(t, "a Body", table(), []string{"c"}, 1, row(deep(levels), num(5)))
			wantErrArg(t, "a Body", table(), []string{"c"}, 1, row(lit(1), num(5)), row(deep(levels), wild()))
			wantCompile20(t, `7`, 1, row(lit(7), wild()), row(deep(levels), wild()))
		}
	})
}

// R1: calls for deeper patterns end too.
func TestTooDeep(t *testing.T) {
	sure, not, _ := chains()
	for _, all := range []map[string]func(api.Node) api.Node{sure, not} {
		for what, around := range all {
			hold20(t, what, func() {
				for _, times := range []int{1<<17 - 2, 1<<17 + 2, 1000000} {
					deep := nested(times, pvar("z"), around)
					match.Sure(table(), deep)
					match.Compile(table(), []string{"c", "d"}, 1, row(v("z"), num(1), deep))
				}
			})
		}
	}
}

// R1: calls for what is a part of itself end. It is no pattern.
func TestEndless(t *testing.T) {
	loop := func(kind int, name string, width int) api.Node {
		subs := make([]api.Node, width)
		p := api.Node{Kind: kind, Name: name, Subs: subs}
		for i := range subs {
			subs[i] = p
		}
		return p
	}
	fields := []api.Node{field("x", wild()), field("y", wild())}
	record := rec("R", fields...)
	for i := range fields {
		fields[i].Subs[0] = record
	}
	// Many patterns, each of which is a part of itself and of the next one.
	ring := make([]api.Node, 3000)
	for i := range ring {
		ring[i] = tup(wild(), wild())
	}
	for i := range ring {
		ring[i].Subs[0], ring[i].Subs[1] = ring[(i+1)%len(ring)], ring[i]
	}
	for what, p := range map[string]api.Node{"PAs": loop(api.PAs, "y", 1), "PTup": loop(api.PTup, "", 2), "PTup of three": loop(api.PTup, "", 3), "PList": loop(api.PList, "", 1000), "PCon": loop(api.PCon, "C", 2), "EField": loop(api.EField, "x", 1), "PMake": record, "ring": ring[0]} {
		hold20(t, what, func() {
			if match.Sure(table(), p) || match.Sure(table(), tup(wild(), p)) {
				t.Error(what)
			}
			wantErrArg(t, what, table(), []string{"c"}, 1, row(lit(1), p))
			wantErrArg(t, what, table(), []string{"c", "d"}, 1, row(lit(1), wild(), wild()), row(lit(1), num(1), tup(p, wild())))
		})
	}
	// Bodies, too.
	subs := make([]api.Expr, 2)
	body := app(subs...)
	subs[0], subs[1] = body, body
	hold20(t, "a Body", func() {
		match.Compile(table(), []string{"c"}, 1, row(body, wild()))
		match.Compile(table(), []string{"c"}, 1, row(body, num(1)), row(lit(1), wild()))
		match.Compile(table(), []string{"c"}, 1, row(lit(1), wild()), row(body, num(1)))
	})
}

// R1, P11.2: a pattern that takes little memory may have more parts than can be
// gone through.
func TestShared(t *testing.T) {
	doubled := func(p api.Node) api.Node { return tup(p, p) }
	for _, times := range []int{10, 30, 60, 20000} {
		hold20(t, "doubled patterns", func() {
			sure, not, no := nested(times, wild(), doubled), nested(times, num(1), doubled), nested(times, tup(), doubled)
			if !match.Sure(table(), sure) || match.Sure(table(), not) || match.Sure(table(), no) || match.Sure(table(), tup(sure, no)) || match.Sure(table(), tup(not, no)) {
				t.Error(times)
			}
			wantErrArg(t, "no pattern", table(), []string{"c"}, 1, row(lit(1), no))
			wantErrArg(t, "no pattern", table(), []string{"c"}, 1, row(lit(1), wild()), row(lit(1), tup(sure, no)))
			// Nothing is made of the rows behind an irrefutable one.
			wantCompile20(t, `let m#1 = (\m#2 -> 8) in case c as m#3 {1 -> 7; _ -> (m#1 !Prim.())}`, 4, row(lit(7), num(1)), row(lit(8), wild()), row(lit(9), sure), row(lit(9), not))
			for _, p := range []api.Node{sure, not, nested(times, list(), func(p api.Node) api.Node { return list(p, p) }), nested(times, pvar("y"), func(p api.Node) api.Node { return rec("R", field("x", p), field("y", p)) })} {
				e, n, errno := match.Compile(table(), []string{"c"}, 1, row(lit(7), p))
				if times == 10 && (errno != api.OK || !equal(endOf(e), lit(7))) || times > 10 && (errno != api.ErrArg || n != 0 || !equal(e, api.Expr{})) {
					t.Error(times, errno, n)
				}
			}
		})
	}
	hold20(t, "doubled Bodies", func() {
		body := next()
		for range 60 {
			body = app(body, body)
		}
		match.Compile(table(), []string{"c"}, 1, row(body, num(1)))
		match.Compile(table(), []string{"c"}, 1, row(body, wild()), row(body, wild()))
		wantCompile20(t, `7`, 1, row(lit(7), wild()), row(body, wild()))
		long := api.Expr{Kind: api.Lam, Names: make([]string, 400000), Subs: []api.Expr{lit(1)}}
		rows := slices.Repeat([]api.Row{row(long, num(1))}, 100000)
		match.Compile(table(), []string{"c"}, 1, rows...)
	})
}

// wantCompile20 is for a column c, without the second way.
func wantCompile20(t *testing.T, want string, wantNext int, rows ...api.Row) {
	t.Helper()
	e, n, errno := match.Compile(table(), []string{"c"}, 1, rows...)
	if errno != api.OK || n != wantNext || say(e) != want {
		t.Errorf("got %s, next %d, %v, want %s, next %d", say(e), n, errno, want, wantNext)
	}
}

// R1: long lists and texts, many columns and many rows.
func TestGreat(t *testing.T) {
	const count = 300000
	hold20(t, "a text", func() {
		e, n, errno := match.Compile(table(), []string{"c"}, 1, row(lit(7), text(strings.Repeat("ab", count/2))))
		around, end := spine(e)
		if errno != api.OK || n != 3+4*count+1 || around != 1+2*count+1 || !equal(end, lit(7)) {
			t.Error(errno, n, around)
		}
	})
	hold20(t, "a longer text", func() {
		long := strings.Repeat("a", 1<<28)
		match.Sure(table(), text(long))
		if e, n, errno := match.Compile(table(), []string{"c"}, 1, row(lit(7), text(long))); errno != api.ErrArg || n != 0 || !equal(e, api.Expr{}) {
			t.Error(errno, n)
		}
	})
	hold20(t, "a list", func() {
		p := list()
		for i := range count {
			p.Subs = append(p.Subs, pvar("y"+strconv.Itoa(i)))
		}
		e, n, errno := match.Compile(table(), []string{"c"}, 1, row(lit(7), p))
		around, end := spine(e)
		if errno != api.OK || n != 3+3*count+1 || around != 1+2*count+1 || !equal(end, lit(7)) {
			t.Error(errno, n, around)
		}
	})
	hold20(t, "columns", func() {
		m, names, r := newMaker(80), []string{}, row(v("y"))
		for i := range 4 * count {
			names = append(names, "c"+strconv.Itoa(i))
			r.Pats = append(r.Pats, pick(m, wild(), wild(), pvar("y"), pcon("U")))
		}
		e, n, errno := match.Compile(table(), names, 1, r)
		around, end := spine(e)
		if errno != api.OK || n < count/2 || around < count || !equal(end, v("y")) {
			t.Error(errno, n, around)
		}
	})
	hold20(t, "rows", func() {
		var rows []api.Row
		for i := range count {
			rows = append(rows, row(lit(i), num(i)))
		}
		e, n, errno := match.Compile(table(), []string{"c"}, 1, rows...)
		if errno != api.OK || n != 1+3*count {
			t.Error(errno, n)
		}
		for i := range count {
			if e.Binds[0].Name != "m#"+strconv.Itoa(1+2*i) || !equal(endOf(e), lit(i)) || e.Subs[0].Name != "m#"+strconv.Itoa(3*count-i) {
				t.Fatal(i, e.Binds[0].Name, e.Subs[0].Name)
			}
			e = e.Binds[0].Expr.Subs[0]
		}
		if !equal(e, prim(api.Raise)) {
			t.Error(say(e))
		}
	})
	hold20(t, "a table", func() {
		tab := table()
		for i := range count {
			tab.Cons = append(tab.Cons, api.Cons{Name: "K" + strconv.Itoa(i), Arity: 1, Tag: i, Family: count})
			tab.Labels = append(tab.Labels, api.Label{Name: "k", Con: "K" + strconv.Itoa(i)})
		}
		e, n, errno := match.Compile(tab, []string{"c"}, 1, row(lit(7), rec("K299999", field("k", wild()))))
		if errno != api.OK || n != 5 || !equal(endOf(e), lit(7)) {
			t.Error(errno, n)
		}
	})
}

// R1: constructors with more fields than fit, or fewer than none, and first
// numbers behind which there are few.
func TestOddNumbers(t *testing.T) {
	for _, arity := range []int{-1, math.MinInt, 1 << 28, 1 << 31, 1 << 40, math.MaxInt} {
		hold20(t, "fields", func() {
			tab := api.Table{Cons: []api.Cons{{Name: "K", Arity: arity, Family: 1}, {Name: "L", Arity: arity, Family: 2}}, Labels: []api.Label{{Name: "k", Con: "K", Place: arity - 1}}}
			if !match.Sure(tab, rec("K")) || match.Sure(tab, rec("L")) || match.Sure(tab, pcon("K")) || match.Sure(tab, rec("K", field("k", wild()))) != (arity > 0) {
				t.Error(arity)
			}
			e, n, errno := match.Compile(tab, []string{"c"}, 1, row(lit(7), rec("K")))
			if arity < 0 && (errno != api.OK || n != 2 || say(e) != `case c as m#1 {K -> 7}`) || arity > 0 && errno != api.ErrArg {
				t.Error(arity, errno, n)
			}
			if _, _, errno := match.Compile(tab, []string{"c"}, 1, row(lit(7), wild()), row(lit(8), rec("K")), row(lit(8), rec("L"))); errno != api.OK {
				t.Error(arity, errno)
			}
		})
	}
	for _, first := range []int{math.MaxInt, math.MaxInt - 1, math.MaxInt - 5} {
		match.Compile(table(), []string{"c"}, first, row(next(), text("ab")), row(lit(7), list(wild())))
	}
	e, n, errno := match.Compile(table(), []string{"c"}, math.MaxInt-3, row(lit(7), num(1)))
	if errno != api.OK || n != math.MaxInt || e.Binds[0].Name != "m#9223372036854775804" || e.Subs[0].Name != "m#9223372036854775806" {
		t.Error(errno, n, say(e))
	}
}
