package desugar_test

import (
	"math/rand"
	"strconv"
	"strings"
)

// kind is a type without variables.
type kind struct {
	name  string // Int, Bool, [], (,), Maybe, T or ->
	parts []kind
}

var (
	ints  = kind{name: "Int"}
	bools = kind{name: "Bool"}
	own   = kind{name: "T"}
)

func listsOf(t kind) kind { return kind{"[]", []kind{t}} }

func (t kind) text() string {
	all := t.name
	for _, p := range t.parts {
		all += "(" + p.text() + ")"
	}
	return all
}

// declared is what all programs that are made at random begin with.
const declared = `
data T = A | B Int T | C { p :: Int, q :: [Int] }
infixr 4 +++
x +++ y = show x ++ show y
same x y = x == y
most x y = if x <= y then y else x
each f l = map f l
class Z a where { z :: a }
instance Z Int where { z = 1 }
instance Z Bool where { z = False }
instance Z a => Z [a] where { z = [z, z] }
instance (Z a, Z b) => Z (a, b) where { z = (z, z) }
instance Z a => Z (Maybe a) where { z = Just z }
`

// fieldKinds is the types of a constructor's fields.
func fieldKinds(t kind, con string) []kind {
	switch con {
	case ":":
		return []kind{t.parts[0], t}
	case "(,)":
		return t.parts
	case "Just":
		return t.parts
	case "B":
		return []kind{ints, own}
	case "C":
		return []kind{ints, listsOf(ints)}
	}
	return nil
}

func consOf(t kind) []string {
	switch t.name {
	case "Bool":
		return []string{"False", "True"}
	case "[]":
		return []string{"[]", ":"}
	case "(,)":
		return []string{"(,)"}
	case "Maybe":
		return []string{"Nothing", "Just"}
	case "T":
		return []string{"A", "B", "C"}
	}
	return nil
}

// code is an expression, and what it means.
type code struct {
	text string
	is   func(scope) thing
}

// at is a value that is evaluated when it is needed.
func (c code) at(s scope) *lazy { return later(func() thing { return c.is(s) }) }

// pattern is a pattern, the variables it binds, and how a value is matched.
type pattern struct {
	text  string
	binds map[string]kind
	match func(*lazy) (scope, bool)
}

// maker makes programs.
type maker struct {
	*rand.Rand
	vars  map[string]kind
	count int
}

func (m *maker) fresh() string {
	m.count++
	return "v" + strconv.Itoa(m.count)
}

// inside makes something with further variables.
func (m *maker) inside(binds map[string]kind, do func()) {
	before := m.vars
	m.vars = map[string]kind{}
	for name, t := range before {
		m.vars[name] = t
	}
	for name, t := range binds {
		m.vars[name] = t
	}
	do()
	m.vars = before
}

// plain is a random type that values of can be compared and shown.
func (m *maker) plain(depth int) kind {
	if depth == 0 || m.Intn(3) == 0 {
		return []kind{ints, ints, bools}[m.Intn(3)]
	}
	switch m.Intn(3) {
	case 0:
		return kind{"(,)", []kind{m.plain(depth - 1), m.plain(depth - 1)}}
	case 1:
		return kind{"Maybe", []kind{m.plain(depth - 1)}}
	}
	return listsOf(m.plain(depth - 1))
}

func (m *maker) any() kind {
	switch m.Intn(6) {
	case 0:
		return own
	case 1:
		return kind{"->", []kind{m.plain(1), m.plain(1)}}
	}
	return m.plain(2)
}

// known is the variables of a type.
func (m *maker) known(t kind) []string {
	var all []string
	for i := 1; i <= m.count; i++ {
		name := "v" + strconv.Itoa(i)
		if k, found := m.vars[name]; found && k.text() == t.text() {
			all = append(all, name)
		}
	}
	return all
}

// expression is one of some type.
func (m *maker) expression(t kind, depth int) code {
	if names := m.known(t); len(names) > 0 && m.Intn(3) == 0 {
		name := names[m.Intn(len(names))]
		return code{name, func(s scope) thing { return s[name].force() }}
	}
	if depth > 0 {
		switch m.Intn(12) {
		case 0:
			return m.choice(t, depth-1)
		case 1, 2:
			return m.cases(t, depth-1)
		case 3:
			return m.let(t, depth-1)
		case 4:
			return m.call(t, depth-1)
		case 5:
			a, b := m.expression(m.plain(1), depth-1), m.expression(t, depth-1)
			return code{"seq (" + a.text + ") (" + b.text + ")", func(s scope) thing { a.is(s); return b.is(s) }}
		case 6:
			if m.Intn(4) == 0 {
				return code{"error", func(scope) thing { return fails() }}
			}
		case 7:
			if t.name != "->" && t.name != "T" {
				return code{"z", func(scope) thing { return zero(t) }}
			}
		}
	}
	switch t.name {
	case "Int":
		return m.number(depth)
	case "Bool":
		return m.truth(depth)
	case "[]":
		return m.list(t, depth)
	case "->":
		return m.function(t, depth)
	case "Maybe":
		if depth > 0 && m.Intn(4) == 0 {
			return m.do(t, depth-1)
		}
	case "T":
		if depth > 0 && m.Intn(3) == 0 {
			return m.record(depth - 1)
		}
	}
	return m.construct(t, depth)
}

func (m *maker) construct(t kind, depth int) code {
	cons := consOf(t)
	con := cons[m.Intn(len(cons))]
	if depth == 0 && t.name != "Bool" {
		con = cons[0]
	}
	var parts []code
	text := con
	for _, k := range fieldKinds(t, con) {
		part := m.expression(k, max(depth-1, 0))
		parts = append(parts, part)
		text += " (" + part.text + ")"
	}
	switch {
	case con == ":":
		text = "(" + parts[0].text + ") : (" + parts[1].text + ")"
	case con == "(,)" && m.Intn(4) > 0:
		text = "(" + parts[0].text + ", " + parts[1].text + ")"
	}
	return code{text, func(s scope) thing {
		x := of(con)
		for _, part := range parts {
			x.fields = append(x.fields, part.at(s))
		}
		return x
	}}
}

func (m *maker) number(depth int) code {
	if depth > 0 {
		switch m.Intn(5) {
		case 0, 1:
			return m.operation([]string{"+", "-", "*", "quot", "rem"}[m.Intn(5)], depth-1)
		case 2:
			l := m.expression(listsOf(ints), depth-1)
			return code{"sum (" + l.text + ")", func(s scope) thing {
				n := 0
				var numbers []*lazy
				for x := l.is(s); x.con == ":"; x = x.fields[1].force() {
					numbers = append(numbers, x.fields[0])
				}
				for _, x := range numbers { // when all of the list is there
					n += x.force().n
				}
				return thing{n: n}
			}}
		case 3:
			r := m.expression(own, depth-1)
			return code{"p (" + r.text + ")", func(s scope) thing {
				x := r.is(s)
				if x.con != "C" {
					return fails()
				}
				return x.fields[0].force()
			}}
		}
	}
	n := m.Intn(4)
	return code{strconv.Itoa(n), func(scope) thing { return thing{n: n} }}
}

// operation is one on two numbers, in one of the ways in which it can be written.
func (m *maker) operation(name string, depth int) code {
	a, b := m.expression(ints, depth), m.expression(ints, depth)
	operator := name
	if len(name) > 1 {
		operator = "`" + name + "`"
	}
	text := "(" + a.text + ") " + operator + " (" + b.text + ")"
	switch m.Intn(4) {
	case 0:
		text = "((" + a.text + ") " + operator + ") (" + b.text + ")"
	case 1:
		text = "(" + operator + " (" + b.text + ")) (" + a.text + ")"
	}
	return code{text, func(s scope) thing {
		x, y := a.is(s).n, b.is(s).n
		switch name {
		case "+":
			return thing{n: x + y}
		case "-":
			return thing{n: x - y}
		case "*":
			return thing{n: x * y}
		}
		if y == 0 {
			return fails()
		}
		if name == "quot" {
			return thing{n: x / y}
		}
		return thing{n: x % y}
	}}
}

func (m *maker) truth(depth int) code {
	if depth == 0 || m.Intn(3) == 0 {
		return m.construct(bools, depth)
	}
	t := m.plain(1)
	name, compare := []string{"same", "=="}[m.Intn(2)], equal
	if m.Intn(3) == 0 {
		t = []kind{ints, listsOf(ints)}[m.Intn(2)]
		name, compare = "<=", below
	}
	a, b := m.expression(t, depth-1), m.expression(t, depth-1)
	text := "(" + a.text + ") " + name + " (" + b.text + ")"
	if name == "same" {
		text = "same (" + a.text + ") (" + b.text + ")"
	}
	return code{text, func(s scope) thing { return bool2(compare(t, a.at(s), b.at(s))) }}
}

func (m *maker) list(t kind, depth int) code {
	switch {
	case depth > 0 && t.parts[0].name == "Int" && len(m.known(polys)) > 0 && m.Intn(2) == 0:
		names := m.known(polys)
		name, k := names[m.Intn(len(names))], m.plain(2)
		x := m.expression(k, depth-1)
		return code{name + " (" + pinned(k, x.text) + ")", func(s scope) thing { return s[name].force().all(k, x.at(s)) }}
	case depth > 0 && t.parts[0].name == "Int" && m.Intn(4) == 0:
		k := m.plain(2)
		x, y := m.expression(k, depth-1), m.expression(ints, depth-1)
		return code{"(" + pinned(k, x.text) + ") +++ (" + y.text + ")", func(s scope) thing {
			return shown(k, x.at(s), func() thing { return shown(ints, y.at(s), func() thing { return of("[]") }) })
		}}
	case t.parts[0].name == "Int" && m.Intn(5) == 0:
		text := []string{"", "a", "ab", "abc"}[m.Intn(4)]
		return code{"\"" + text + "\"", func(scope) thing { return bytesOf(text) }}
	case depth > 0 && m.Intn(5) == 0:
		return m.each(t, depth-1)
	case depth > 0 && m.Intn(6) == 0:
		return m.do(t, depth-1)
	case m.Intn(2) == 0:
		return m.construct(t, depth)
	}
	var parts []code
	var texts []string
	for range m.Intn(3) {
		parts = append(parts, m.expression(t.parts[0], max(depth-1, 0)))
		texts = append(texts, parts[len(parts)-1].text)
	}
	return code{"[" + strings.Join(texts, ", ") + "]", func(s scope) thing {
		x := of("[]")
		for i := len(parts) - 1; i >= 0; i-- {
			x = of(":", parts[i].at(s), ready(x))
		}
		return x
	}}
}

// mapped is map's list.
func mapped(f func(*lazy) thing, l *lazy) thing {
	x := l.force()
	if x.con == "[]" {
		return x
	}
	return of(":", later(func() thing { return f(x.fields[0]) }), later(func() thing { return mapped(f, x.fields[1]) }))
}

func (m *maker) each(t kind, depth int) code {
	k := m.plain(1)
	f, l := m.expression(kind{"->", []kind{k, t.parts[0]}}, depth), m.expression(listsOf(k), depth)
	return code{"each (" + f.text + ") (" + l.text + ")", func(s scope) thing {
		g := f.at(s)
		return mapped(func(x *lazy) thing { return g.force().call(x) }, l.at(s))
	}}
}

// pinned is an expression that has no other type: which show is meant hangs on it
// even if there is nothing to be shown.
func pinned(t kind, text string) string {
	return "if True then " + text + " else (" + witness(t) + ")"
}

func witness(t kind) string {
	switch t.name {
	case "Int":
		return "0"
	case "Bool":
		return "True"
	case "[]":
		return "[" + witness(t.parts[0]) + "]"
	case "(,)":
		return "(" + witness(t.parts[0]) + ", " + witness(t.parts[1]) + ")"
	}
	return "Just (" + witness(t.parts[0]) + ")"
}

// polys is the types of all functions that take what can be compared and shown,
// and answer a text.
var polys = kind{name: "poly"}

func pairOf(t, u kind) kind { return kind{"(,)", []kind{t, u}} }

func show(t kind, x *lazy) thing { return shown(t, x, func() thing { return of("[]") }) }

// poly is a declaration of such a function, which takes dictionaries: its own ones
// and those of others go on to what it uses.
func (m *maker) poly(depth int) (string, map[string]kind, func(s, bound scope)) {
	name, other, third := m.fresh(), m.fresh(), m.fresh()
	e, n := m.expression(listsOf(ints), max(depth-1, 0)), m.expression(ints, max(depth-1, 0))
	in := func(s scope) func() thing { return func() thing { return e.is(s) } }
	var text string
	var means func(s scope, t kind, x *lazy) thing
	switch m.Intn(6) {
	case 0:
		text, means = "F x = show x", func(s scope, t kind, x *lazy) thing { return show(t, x) }
	case 1:
		text = "F x = show (x, N)"
		means = func(s scope, t kind, x *lazy) thing { return show(pairOf(t, ints), ready(of("(,)", x, n.at(s)))) }
	case 2:
		text = "F = \\x -> if same x x then show [x] else E"
		means = func(s scope, t kind, x *lazy) thing {
			if equal(t, x, x) {
				return show(listsOf(t), ready(listing2(x)))
			}
			return e.is(s)
		}
	case 3:
		text = "F x = G x ++ (G [x] ++ E) where { G y = show y ++ show x }"
		means = func(s scope, t kind, x *lazy) thing {
			g := func(u kind, y *lazy) thing { return shown(u, y, func() thing { return show(t, x) }) }
			return appended(later(func() thing { return g(t, x) }), func() thing {
				return appended(later(func() thing { return g(listsOf(t), ready(listing2(x))) }), in(s))
			})
		}
	case 4:
		text = "F x = G 2 x; H n x = if x == x then G n x else E; G n x | n <= 0 = show x | True = H (n - 1) x"
		means = func(s scope, t kind, x *lazy) thing {
			if equal(t, x, x) && equal(t, x, x) {
				return show(t, x)
			}
			return e.is(s)
		}
	case 5:
		text = "F x = let { (G, y) = (show x, N); H z = if z == y then G else show (z, x) } in H y ++ H (y + 1)"
		means = func(s scope, t kind, x *lazy) thing {
			y := n.at(s)
			z := later(func() thing { return thing{n: y.force().n + 1} })
			h := func(z *lazy) *lazy {
				return later(func() thing {
					if equal(ints, z, y) {
						return show(t, x)
					}
					return show(pairOf(ints, t), ready(of("(,)", z, x)))
				})
			}
			return appended(h(y), func() thing { return h(z).force() })
		}
	}
	text = strings.NewReplacer("F", name, "G", other, "H", third, "E", "("+e.text+")", "N", n.text).Replace(text)
	return text, map[string]kind{name: polys}, func(s, bound scope) {
		bound[name] = ready(thing{all: func(t kind, x *lazy) thing { return means(s, t, x) }})
	}
}

func listing2(x *lazy) thing { return of(":", x, ready(of("[]"))) }

// zero is what z is for a type.
func zero(t kind) thing {
	part := func(i int) *lazy { return later(func() thing { return zero(t.parts[i]) }) }
	switch t.name {
	case "Int":
		return thing{n: 1}
	case "Bool":
		return of("False")
	case "[]":
		return of(":", part(0), ready(of(":", part(0), ready(of("[]")))))
	case "(,)":
		return of("(,)", part(0), part(1))
	}
	return of("Just", part(0))
}
