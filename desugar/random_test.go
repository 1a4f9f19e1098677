package desugar_test

import (
	"math/rand"
	"regexp"
	"strconv"
	"strings"
	"testing"

	"teasel/api"
	"teasel/core"
	"teasel/desugar"
)

func (m *maker) choice(t kind, depth int) code {
	c, a, b := m.expression(bools, depth), m.expression(t, depth), m.expression(t, depth)
	return code{"if " + c.text + " then " + a.text + " else (" + b.text + ")", func(s scope) thing {
		if c.is(s).con == "True" {
			return a.is(s)
		}
		return b.is(s)
	}}
}

// rows is patterns and guards, and what they mean for values: false if no row
// matches.
type rows struct {
	pats  [][]pattern
	rhs   []string // with BAD in place of the sign
	match func(scope, []*lazy) (func() thing, bool)
}

func (m *maker) rows(from []kind, to kind, depth int) rows {
	var all rows
	var tries []func(scope, []*lazy) (func() thing, bool)
	for range 1 + m.Intn(3) {
		var pats []pattern
		binds := map[string]kind{}
		for _, k := range from {
			pats = append(pats, m.pattern(k, 2))
			for name, of := range pats[len(pats)-1].binds {
				binds[name] = of
			}
		}
		all.pats = append(all.pats, pats)
		m.inside(binds, func() {
			text, body := m.guards(to, depth, plainText)
			all.rhs = append(all.rhs, text)
			tries = append(tries, func(s scope, values []*lazy) (func() thing, bool) {
				for i, p := range pats {
					bound, ok := p.match(values[i])
					if !ok {
						return nil, false
					}
					s = s.with(bound)
				}
				return body(s)
			})
		})
	}
	all.match = func(s scope, values []*lazy) (func() thing, bool) {
		for _, try := range tries {
			if do, ok := try(s, values); ok {
				return do, true
			}
		}
		return nil, false
	}
	return all
}

func plainText(text string) string { return text }

// guards is a DRhs, whose expressions are written in some way.
func (m *maker) guards(t kind, depth int, as func(string) string) (string, func(scope) (func() thing, bool)) {
	var where decls
	text := ""
	do := func() {}
	var conditions, values []code
	do = func() {
		count := m.Intn(3)
		if count == 0 {
			values = append(values, m.expression(t, depth))
			text = " BAD " + as(values[0].text)
		}
		for i := range count {
			conditions = append(conditions, m.expression(bools, max(depth-1, 0)))
			values = append(values, m.expression(t, depth))
			text += " | " + conditions[i].text + " BAD " + as(values[i].text)
		}
	}
	if depth > 0 && m.Intn(4) == 0 {
		where = m.decls(depth - 1)
		m.inside(where.binds, do)
		text += " where { " + where.text + " }"
	} else {
		do()
	}
	return text, func(s scope) (func() thing, bool) {
		if where.bind != nil {
			s = where.bind(s)
		}
		for i, c := range conditions {
			if c.is(s).con == "True" {
				return func() thing { return values[i].is(s) }, true
			}
		}
		return func() thing { return values[0].is(s) }, len(conditions) == 0
	}
}

func (m *maker) cases(t kind, depth int) code {
	k := m.any()
	if k.name == "->" {
		k = own
	}
	e := m.expression(k, depth)
	r := m.rows([]kind{k}, t, depth)
	var alternatives []string
	for i := range r.pats {
		alternatives = append(alternatives, r.pats[i][0].text+replaced(r.rhs[i], "->"))
	}
	return code{"case " + e.text + " of { " + strings.Join(alternatives, "; ") + " }", func(s scope) thing {
		do, ok := r.match(s, []*lazy{e.at(s)})
		if !ok {
			return fails()
		}
		return do()
	}}
}

// decls is declarations of a List.
type decls struct {
	text  string
	binds map[string]kind
	bind  func(scope) scope
}

func (m *maker) decls(depth int) decls {
	all := decls{binds: map[string]kind{}}
	var texts []string
	var binders []func(s, bound scope)
	for range 1 + m.Intn(2) {
		m.inside(all.binds, func() {
			text, binds, bind := m.decl(depth)
			texts, binders = append(texts, text), append(binders, bind)
			all.binds = merged(all.binds, binds)
		})
	}
	m.Shuffle(len(texts), func(i, j int) { texts[i], texts[j] = texts[j], texts[i] })
	all.text = strings.Join(texts, "; ")
	all.bind = func(s scope) scope {
		for _, bind := range binders {
			bound := scope{}
			bind(s, bound)
			s = s.with(bound)
		}
		return s
	}
	return all
}

// decl is a variable, a function or a DPat.
func (m *maker) decl(depth int) (string, map[string]kind, func(s, bound scope)) {
	switch m.Intn(4) {
	case 3:
		return m.poly(depth)
	case 0:
		name, t := m.fresh(), m.any()
		text, body := m.guards(t, depth, plainText)
		return name + replaced(text, "="), map[string]kind{name: t}, func(s, bound scope) {
			bound[name] = later(func() thing { return plainly(body(s)) })
		}
	case 1:
		name, from, to := m.fresh(), m.plain(1), m.plain(1)
		r := m.rows([]kind{from}, to, depth)
		var clauses []string
		for i := range r.pats {
			clauses = append(clauses, name+" "+r.pats[i][0].text+replaced(r.rhs[i], "="))
		}
		return strings.Join(clauses, "; "), map[string]kind{name: {"->", []kind{from, to}}}, func(s, bound scope) {
			bound[name] = ready(thing{call: func(x *lazy) thing { return plainly(r.match(s, []*lazy{x})) }})
		}
	}
	t := kind{"(,)", []kind{m.plain(1), m.plain(1)}}
	pat := m.pattern(t, 2)
	for pat.text[0] != '(' {
		pat = m.pattern(t, 2)
	}
	// what a DPat binds takes no dictionaries, so its types must be told
	text, body := m.guards(t, depth, func(text string) string { return pinned(t, text) })
	return pat.text + replaced(text, "="), pat.binds, func(s, bound scope) {
		matched := later(func() thing {
			found, ok := pat.match(later(func() thing { return plainly(body(s)) }))
			if !ok {
				return fails()
			}
			return thing{bound: found}
		})
		for name := range pat.binds {
			bound[name] = later(func() thing { return matched.force().bound[name].force() })
		}
	}
}

func plainly(do func() thing, ok bool) thing {
	if !ok {
		return fails()
	}
	return do()
}

func (m *maker) let(t kind, depth int) code {
	d := m.decls(depth)
	var body code
	m.inside(d.binds, func() { body = m.expression(t, depth) })
	return code{"let { " + d.text + " } in " + body.text, func(s scope) thing { return body.is(d.bind(s)) }}
}

// call applies a function that is a variable, a lambda, or of some other sort.
func (m *maker) call(t kind, depth int) code {
	from := m.plain(1)
	f, x := m.expression(kind{"->", []kind{from, t}}, depth), m.expression(from, depth)
	return code{"(" + f.text + ") (" + x.text + ")", func(s scope) thing { return f.is(s).call(x.at(s)) }}
}

func (m *maker) function(t kind, depth int) code {
	pat := m.pattern(t.parts[0], 2)
	var body code
	m.inside(pat.binds, func() { body = m.expression(t.parts[1], max(depth-1, 0)) })
	return code{"\\" + pat.text + " -> " + body.text, func(s scope) thing {
		return thing{call: func(x *lazy) thing {
			bound, ok := pat.match(x)
			if !ok {
				return fails()
			}
			return body.is(s.with(bound))
		}}
	}}
}

// record is an EMake or an EPut.
func (m *maker) record(depth int) code {
	n, l := m.expression(ints, depth), m.expression(listsOf(ints), depth)
	switch m.Intn(4) {
	case 0:
		return code{"C { q = " + l.text + ", p = " + n.text + " }", func(s scope) thing { return of("C", n.at(s), l.at(s)) }}
	case 1:
		return code{"C { p = " + n.text + " }", func(s scope) thing { return of("C", n.at(s), later(fails)) }}
	}
	r, both := m.expression(own, depth), m.Intn(2) == 0
	text := "(id (" + r.text + ")) { q = " + l.text
	if both {
		text += ", p = " + n.text
	}
	return code{text + " }", func(s scope) thing {
		x := r.is(s)
		if x.con != "C" {
			return fails()
		}
		if both {
			return of("C", n.at(s), l.at(s))
		}
		return of("C", x.fields[0], l.at(s))
	}}
}

// do is an EDo of a Maybe or a list, whose first statement tells which.
func (m *maker) do(t kind, depth int) code {
	k := kind{t.name, []kind{m.plain(1)}}
	first := m.expression(k, depth)
	pat := m.pattern(k.parts[0], 2)
	var last code
	m.inside(pat.binds, func() { last = m.expression(t, depth) })
	con := map[string]string{"Maybe": "Just", "[]": "(: [])"}[t.name]
	text := "do { " + pat.text + " <- if True then " + first.text + " else fmap error (" + con + " 1); " + last.text + " }"
	each := func(s scope, x *lazy) thing {
		bound, ok := pat.match(x)
		if !ok {
			return fails()
		}
		return last.is(s.with(bound))
	}
	return code{text, func(s scope) thing {
		if t.name == "Maybe" {
			x := first.is(s)
			if x.con == "Nothing" {
				return x
			}
			return each(s, x.fields[0])
		}
		return joined(mapped(func(x *lazy) thing { return each(s, x) }, first.at(s)))
	}}
}

// joined is concat's list.
func joined(l thing) thing {
	if l.con == "[]" {
		return l
	}
	return appended(l.fields[0], func() thing { return joined(l.fields[1].force()) })
}

func appended(l *lazy, rest func() thing) thing {
	x := l.force()
	if x.con == "[]" {
		return rest()
	}
	return of(":", x.fields[0], later(func() thing { return appended(x.fields[1], rest) }))
}

// pattern is one of some type, as an atom.
func (m *maker) pattern(t kind, depth int) pattern {
	switch {
	case t.name == "->" || depth == 0 || m.Intn(4) == 0:
		if m.Intn(4) == 0 {
			return pattern{"_", nil, func(*lazy) (scope, bool) { return nil, true }}
		}
		name := m.fresh()
		return pattern{name, map[string]kind{name: t}, func(x *lazy) (scope, bool) { return scope{name: x}, true }}
	case m.Intn(6) == 0:
		name, p := m.fresh(), m.pattern(t, depth-1)
		return pattern{name + "@" + p.text, merged(map[string]kind{name: t}, p.binds), func(x *lazy) (scope, bool) {
			bound, ok := p.match(x)
			return scope{name: x}.with(bound), ok
		}}
	case t.name == "Int":
		n := m.Intn(4)
		return pattern{strconv.Itoa(n), nil, func(x *lazy) (scope, bool) { return nil, x.force().n == n }}
	case t.name == "[]" && t.parts[0].name == "Int" && m.Intn(2) == 0:
		text := []string{"", "a", "ab"}[m.Intn(3)]
		var parts []pattern
		for i := range len(text) {
			parts = append(parts, pattern{match: func(x *lazy) (scope, bool) { return nil, x.force().n == int(text[i]) }})
		}
		return pattern{"\"" + text + "\"", nil, matchList(parts)}
	case t.name == "[]" && m.Intn(2) == 0:
		var parts []pattern
		var texts []string
		binds := map[string]kind{}
		for range m.Intn(3) {
			p := m.pattern(t.parts[0], depth-1)
			parts, texts, binds = append(parts, p), append(texts, p.text), merged(binds, p.binds)
		}
		return pattern{"[" + strings.Join(texts, ", ") + "]", binds, matchList(parts)}
	}
	return m.conPattern(t, depth)
}

func (m *maker) conPattern(t kind, depth int) pattern {
	cons := consOf(t)
	con := cons[m.Intn(len(cons))]
	var parts []pattern
	text := con
	binds := map[string]kind{}
	for _, k := range fieldKinds(t, con) {
		p := m.pattern(k, depth-1)
		parts, binds = append(parts, p), merged(binds, p.binds)
		text += " " + p.text
	}
	order := []int{0, 1}[:len(parts)]
	switch {
	case con == ":":
		text = parts[0].text + " : " + parts[1].text
	case con == "(,)":
		text = parts[0].text + ", " + parts[1].text
	case con == "C" && m.Intn(2) == 0:
		text, order = "C { q = "+parts[1].text+", p = "+parts[0].text+" }", []int{1, 0}
	}
	return pattern{"(" + text + ")", binds, func(x *lazy) (scope, bool) {
		v := x.force()
		all := scope{}
		for _, i := range order {
			if v.con != con {
				return nil, false
			}
			bound, ok := parts[i].match(v.fields[i])
			if !ok {
				return nil, false
			}
			all = all.with(bound)
		}
		return all, v.con == con
	}}
}

func matchList(parts []pattern) func(*lazy) (scope, bool) {
	return func(x *lazy) (scope, bool) {
		all := scope{}
		for _, p := range parts {
			v := x.force()
			if v.con == "[]" {
				return nil, false
			}
			bound, ok := p.match(v.fields[0])
			if !ok {
				return nil, false
			}
			all, x = all.with(bound), v.fields[1]
		}
		return all, x.force().con == "[]"
	}
}

func merged(a, b map[string]kind) map[string]kind {
	all := map[string]kind{}
	for name, t := range a {
		all[name] = t
	}
	for name, t := range b {
		all[name] = t
	}
	return all
}

// whole is a program, and its outcome for an input.
func (m *maker) whole() (string, func(input string) api.Outcome) {
	text := declared + "main = do { "
	var steps []func(s scope, r *naiveRun) scope
	before := m.vars
	for range 1 + m.Intn(5) {
		statement, step := m.statement()
		text += statement + "; "
		steps = append(steps, step)
	}
	last := m.expression(ints, 3)
	m.vars = before
	return text + "return (" + last.text + ") }", func(input string) (o api.Outcome) {
		r := &naiveRun{input: input}
		defer func() {
			stop := recover()
			if e, early := stop.(end); early {
				o.End = e.how
			} else if stop != nil {
				panic(stop)
			}
			o.Out = string(r.out)
		}()
		s := scope{}
		for _, step := range steps {
			s = step(s, r)
		}
		return api.Outcome{End: api.Done, Code: last.is(s).n}
	}
}

// naiveRun is what is read and written.
type naiveRun struct {
	out   []byte
	input string
}

func (r *naiveRun) read() thing {
	if r.input == "" {
		return thing{n: -1}
	}
	b := r.input[0]
	r.input = r.input[1:]
	return thing{n: int(b)}
}

// statement is one of main's EDo. Its variables stay known.
func (m *maker) statement() (string, func(s scope, r *naiveRun) scope) {
	switch m.Intn(5) {
	case 0:
		name := m.fresh()
		m.vars = merged(m.vars, map[string]kind{name: ints})
		return name + " <- getByte", func(s scope, r *naiveRun) scope { return s.with(scope{name: ready(r.read())}) }
	case 1:
		e := m.expression(ints, 3)
		return "putByte (" + e.text + ")", func(s scope, r *naiveRun) scope {
			r.out = append(r.out, byte(e.is(s).n))
			return s
		}
	case 2:
		d := m.decls(3)
		m.vars = merged(m.vars, d.binds)
		return "let { " + d.text + " }", func(s scope, r *naiveRun) scope { return d.bind(s) }
	case 3:
		t := m.any()
		e, pat := m.expression(t, 3), m.pattern(t, 2)
		m.vars = merged(m.vars, pat.binds)
		return pat.text + " <- return (" + e.text + ")", func(s scope, r *naiveRun) scope {
			bound, ok := pat.match(e.at(s))
			if !ok {
				fails()
			}
			return s.with(bound)
		}
	}
	t := m.plain(2)
	e := m.expression(t, 3)
	return "putBytes (show (" + pinned(t, e.text) + "))", func(s scope, r *naiveRun) scope {
		x := shown(t, e.at(s), func() thing { return of("[]") })
		for ; x.con == ":"; x = x.fields[1].force() {
			r.out = append(r.out, byte(x.fields[0].force().n))
		}
		return s
	}
}

func newMaker(seed int64) *maker {
	return &maker{Rand: rand.New(rand.NewSource(seed)), vars: map[string]kind{}}
}

// Programs that are made at random, against their outcomes as the chapter's words
// have them. No run is Wrong.
func TestRandom(t *testing.T) {
	ends := map[int]int{}
	for seed := range int64(1000) {
		m := newMaker(seed)
		text, naive := m.whole()
		p, d := desugar.Front(files(text))
		if d.Number == api.ErrNest || d.Number == api.ErrLong {
			continue
		}
		if d != (api.Diag{}) || core.Lint(p) != api.OK {
			t.Fatalf("%d: %s: %+v", seed, text, d)
		}
		for _, input := range []string{"", "a\x01\x02"} {
			got, want := run(p, input), naive(input)
			ends[got.End]++
			if got != want {
				t.Fatalf("%d: %s\ninput %q: got %+v, want %+v", seed, text, input, got, want)
			}
			if seed%3 == 0 {
				wantRun(t, input, want, m.changed(text))
			}
			if seed%40 == 0 {
				wantBoth(t, input, want, m.changed(text))
			}
		}
	}
	if ends[api.Done] < 200 || ends[api.Failed] < 200 || len(ends) > 2 {
		t.Error(ends)
	}
}

var local = regexp.MustCompile(`\bv(\d+)\b`)

// changed is a program whose local variables are renamed, and whose declarations,
// one on a line, are put in another order.
func (m *maker) changed(text string) string {
	lines := strings.Split(local.ReplaceAllString(text, "x'${1}_"), "\n")
	m.Shuffle(len(lines), func(i, j int) { lines[i], lines[j] = lines[j], lines[i] })
	return strings.Join(lines, "\n")
}
