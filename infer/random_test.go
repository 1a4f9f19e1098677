package infer_test

import (
	"math/rand"
	"slices"
	"strconv"
	"strings"
	"testing"

	"teasel/api"
	"teasel/infer"
	"teasel/unify"
)

// small is a Prelude for random programs.
const small = `module Prelude where
import Prim
infix 4 ==
infixl 1 >>=
data Maybe a = Nothing | Just a
data R f a = R { ra :: f a, rb :: a } | S { sa :: a, sb :: Int }
class Eq a where { (==) :: a -> a -> Bool }
class Show a where { show :: a -> [Int] }
class Def a where { def :: a }
class Nul a where { nul :: a }
class Conv a where { conv :: b -> a -> b }
class Monad m where { return :: a -> m a; (>>=) :: m a -> (a -> m b) -> m b }
instance Eq Int where { (==) = primEq }
instance Eq Bool where { a == b = if a then b else if b then False else True }
instance Eq a => Eq [a] where { [] == [] = True; (x : y) == (z : w) = if x == z then y == w else False; x == y = False }
instance Eq a => Eq (Maybe a) where { Just x == Just y = x == y; x == y = False }
instance (Eq a, Show b) => Eq (a, b) where { (x, y) == (z, w) = if x == z then show y == show w else False }
instance Show Int where { show n = [n] }
instance Show a => Show [a] where { show (x : y) = show x; show [] = [] }
instance (Show a, Def a) => Show (Maybe a) where { show Nothing = show (Just def); show (Just x) = show x }
instance Def Int where { def = 1 }
instance Def a => Def (Maybe a) where { def = Just def }
instance Def b => Def (a -> b) where { def x = def }
instance Nul Bool where { nul = True }
instance Nul (Maybe a) where { nul = Nothing }
instance Conv Int where { conv x y = x }
instance Conv Bool where { conv x y = x }
instance Monad Maybe where { return = Just; Nothing >>= f = Nothing; Just x >>= f = f x }
instance Monad [] where { return x = [x]; [] >>= f = []; (x : y) >>= f = f x }
id x = x
const x y = x
fst (x, y) = x
error = primRaise
getByte = primGet
`

// maker makes random programs.
type maker struct {
	*rand.Rand
	count int
	names []string // those in scope
}

func (m *maker) pick(all ...string) string {
	return all[m.Intn(len(all))]
}

func (m *maker) name() string {
	m.count++
	name := "v" + strconv.Itoa(m.count)
	m.names = append(m.names, name)
	return name
}

// within is what do makes, in a scope of its own.
func (m *maker) within(do func() string) string {
	ahead := len(m.names)
	text := do()
	m.names = m.names[:ahead]
	return text
}

func (m *maker) pattern(depth int) string {
	if depth <= 0 || m.Intn(3) > 0 {
		if m.Intn(8) == 0 {
			return m.pick("_", "1", "True", "\"a\"", "Nothing", "[]")
		}
		return m.name()
	}
	switch m.Intn(7) {
	case 0:
		return "(" + m.pattern(depth-1) + ", " + m.pattern(depth-1) + ")"
	case 1:
		return "(Just " + m.pattern(depth-1) + ")"
	case 2:
		return "(" + m.pattern(depth-1) + " : " + m.pattern(depth-1) + ")"
	case 3:
		return "[" + m.pattern(depth-1) + "]"
	case 4:
		return m.pick("R { rb = ", "S { sa = ", "R { ra = ", "S { sb = ") + m.pattern(depth-1) + " }"
	case 5:
		return m.name() + "@" + m.pattern(depth-1)
	}
	return m.pick("(R ", "(S ") + m.pattern(depth-1) + " " + m.pattern(depth-1) + ")"
}

// leaf is a name, or something else that has no parts.
func (m *maker) leaf() string {
	if n := len(m.names); n > 0 && m.Intn(5) > 0 {
		return m.names[max(m.Intn(n), m.Intn(n))]
	}
	return m.pick("id", "const", "show", "def", "nul", "conv", "return", "fst", "Just", "Nothing", "True", "1", "2", "[]", "\"a\"", "error",
		"(==)", "(>>=)", "(,)", "()", "R", "S", "ra", "rb", "getByte", "(: [])", "(== 1)", "(1 :)")
}

func (m *maker) expression(depth int) string {
	if depth <= 0 {
		return m.leaf()
	}
	e := func() string { return m.expression(depth - 1 - m.Intn(2)) }
	switch m.Intn(21) {
	case 0, 1, 2:
		return "(" + m.leaf() + " " + e() + ")"
	case 3, 4:
		return "(" + m.leaf() + " " + e() + " " + e() + ")"
	case 5:
		return "(" + e() + " == " + e() + ")"
	case 6:
		return "(" + e() + " : " + e() + ")"
	case 7:
		return "(" + e() + " >>= " + e() + ")"
	case 8, 9:
		return m.within(func() string { return "(\\" + m.pattern(1) + " -> " + e() + ")" })
	case 10, 11, 12, 13:
		return m.within(func() string { return "(let { " + m.declarations(depth-1) + " } in " + e() + ")" })
	case 14:
		return "(if " + e() + " then " + e() + " else " + e() + ")"
	case 15:
		return "(case " + e() + " of { " + m.alternative(depth) + "; " + m.alternative(depth) + " })"
	case 16:
		return "(" + e() + ", " + e() + ")"
	case 17:
		return "[" + e() + ", " + e() + "]"
	case 18, 19:
		return m.within(func() string { return "(do { " + m.statements(depth) + " })" })
	}
	return m.record(e)
}

func (m *maker) record(e func() string) string {
	switch m.Intn(6) {
	case 0:
		return "R { ra = " + e() + " }"
	case 1:
		return "S { sa = " + e() + ", sb = " + e() + " }"
	case 2, 3:
		return "(" + e() + " `conv`)"
	case 4:
		return "(== " + e() + ")"
	}
	return "(id " + e() + ") { " + m.pick("ra", "rb", "sa", "sb") + " = " + e() + " }"
}

func (m *maker) alternative(depth int) string {
	return m.within(func() string { return m.pattern(2) + " -> " + m.expression(depth-1) })
}

func (m *maker) statements(depth int) string {
	var all []string
	for range 1 + m.Intn(2) {
		switch m.Intn(4) {
		case 0:
			all = append(all, m.expression(depth-2))
		case 1:
			all = append(all, "let { "+m.declarations(depth-2)+" }")
		default:
			of := m.expression(depth - 2)
			all = append(all, m.pattern(1)+" <- "+of)
		}
	}
	return strings.Join(append(all, m.pick("return "+m.leaf(), m.expression(depth-2))), "; ")
}

// declarations bind names that are in scope in them, too.
func (m *maker) declarations(depth int) string {
	var left, all []string
	for range 1 + m.Intn(2)*m.Intn(3) {
		if m.Intn(5) == 0 {
			left = append(left, "("+m.pattern(1)+", "+m.pattern(1)+")")
		} else {
			left = append(left, m.name())
		}
	}
	for _, l := range left {
		all = append(all, m.declaration(l, depth))
	}
	return strings.Join(all, "; ")
}

func (m *maker) declaration(left string, depth int) string {
	return m.within(func() string {
		if !strings.HasPrefix(left, "(") {
			for range m.Intn(3) {
				left += " " + m.pattern(1)
			}
		}
		switch m.Intn(6) {
		case 0:
			return left + " | " + m.expression(depth-1) + " = " + m.expression(depth-1) + " | True = " + m.expression(depth-1)
		case 1:
			return m.within(func() string {
				where := m.declarations(depth - 1)
				return left + " = " + m.expression(depth-1) + " where { " + where + " }"
			})
		}
		return left + " = " + m.expression(depth)
	})
}

// program is the text of a module.
func (m *maker) program() string {
	m.count, m.names = 0, nil
	left := []string{m.name(), m.name(), m.name()}[:1+m.Intn(3)]
	m.names = slices.Clone(left)
	if m.Intn(6) == 0 {
		left = append(left, "("+m.pattern(2)+", "+m.pattern(1)+")")
	}
	text := "module M where\n"
	for _, l := range left {
		text += m.declaration(l, 2+m.Intn(2)) + "\n"
	}
	if m.Intn(3) == 0 {
		text += m.within(func() string {
			return m.pick("data T a = T a\ninstance Eq (T a) where\n  T v90 == v91 = ", "data T a = T a\ninstance (Show a, Eq a) => Eq (T a) where\n  T v90 == T v91 = ") +
				m.with("v90", "v91") + "\n"
		})
	}
	return text
}

func (m *maker) with(names ...string) string {
	m.names = append(m.names, names...)
	return m.pick("v90 == ", "show v90 == ", "", "id ") + m.expression(2)
}

// typedMaker makes programs that are well-typed but for preds, or nearly so: it
// knows a type for each name, which may be less general than the one that the
// name has.
type typedMaker struct {
	maker
	typeOf map[string]api.Type
	safe   bool // whether nothing is made whose type is not known
}

func (m *typedMaker) goal(depth int) api.Type {
	if depth <= 0 || m.Intn(3) == 0 {
		return []api.Type{tint(), tbool()}[m.Intn(2)]
	}
	switch a := m.goal(depth - 1); m.Intn(5) {
	case 0:
		return tlist(a)
	case 1:
		return tapp(tcon("Prelude.Maybe"), a)
	case 2:
		return ttuple(a, m.goal(depth-1))
	default:
		return tfun(m.goal(depth-1), a)
	}
}

func (m *typedMaker) typed(t api.Type) string {
	name := m.name()
	m.typeOf[name] = t
	return name
}

// parts is the constructor of a type, and its last two arguments.
func parts(t api.Type) (string, api.Type, api.Type) {
	switch {
	case t.Kind == api.TCon:
		return t.Name, api.Type{}, api.Type{}
	case t.Subs[0].Kind == api.TCon:
		return t.Subs[0].Name, t.Subs[1], api.Type{}
	}
	return t.Subs[0].Subs[0].Name, t.Subs[0].Subs[1], t.Subs[1]
}

func (m *typedMaker) match(t api.Type, depth int) string {
	con, a, b := parts(t)
	if depth > 0 && m.Intn(3) == 0 {
		switch con {
		case "Prim.[]":
			return m.pick("(", "z@(") + m.match(a, depth-1) + " : " + m.match(t, depth-1) + ")"
		case "Prelude.Maybe":
			return "(Just " + m.match(a, depth-1) + ")"
		case "Prim.(,)":
			return "(" + m.match(a, depth-1) + ", " + m.match(b, depth-1) + ")"
		case "Prim.Int":
			return m.pick("1", "2")
		case "Prim.Bool":
			return m.pick("True", "False")
		}
	}
	if m.Intn(10) == 0 {
		return "_"
	}
	return m.typed(t)
}

// simple is an expression of a type without parts of any other.
func (m *typedMaker) simple(t api.Type) string {
	var fit []string
	for _, name := range m.names {
		if known, found := m.typeOf[name]; found && unify.Text(known) == unify.Text(t) {
			fit = append(fit, name)
		}
	}
	if len(fit) > 0 && m.Intn(6) > 0 {
		return fit[m.Intn(len(fit))]
	}
	con, a, b := parts(t)
	switch {
	case m.Intn(12) == 0:
		return m.pick("def", "nul", "error")
	case con == "Prim.Int":
		return m.pick("1", "2")
	case con == "Prim.Bool":
		return m.pick("True", "False")
	case con == "Prim.[]":
		return m.pick("[]", "(return "+m.simple(a)+")", "["+m.simple(a)+"]")
	case con == "Prelude.Maybe":
		return m.pick("Nothing", "(return "+m.simple(a)+")", "(Just "+m.simple(a)+")")
	case con == "Prim.(,)":
		return "(" + m.simple(a) + ", " + m.simple(b) + ")"
	}
	return m.within(func() string {
		left := m.match(a, 1)
		return "(\\" + left + " -> " + m.simple(b) + ")"
	})
}

func (m *typedMaker) of(t api.Type, depth int) string {
	if depth <= 0 {
		return m.simple(t)
	}
	if m.Intn(60) == 0 && !m.safe {
		return m.expression(1)
	}
	con, a, b := parts(t)
	other := m.goal(1)
	e := func(t api.Type) string { return m.of(t, depth-1-m.Intn(2)) }
	switch m.Intn(12) {
	case 0:
		return m.within(func() string { return "(let { " + m.bindings(depth-1) + " } in " + e(t) + ")" })
	case 1, 2:
		return "(" + e(tfun(other, t)) + " " + e(other) + ")"
	case 3:
		return "(if " + e(tbool()) + " then " + e(t) + " else " + e(t) + ")"
	case 4:
		return "(case " + e(other) + " of { " + m.branch(other, t, depth) + "; " + m.branch(other, t, depth) + " })"
	case 5:
		return "(" + m.pick("conv ", "const ", "(\\z -> const z) ") + e(t) + " " + e(other) + ")"
	case 6, 7:
		return m.within(func() string { return "(let { " + m.bindings(depth-1) + " } in " + e(t) + ")" })
	}
	switch con {
	case "Prim.Bool":
		return "(" + e(other) + " == " + e(other) + ")"
	case "Prim.[]":
		if m.Intn(2) == 0 && unify.Text(a) == "Int" {
			return "(show " + e(other) + ")"
		}
		return m.monadic(t, a, other, depth)
	case "Prelude.Maybe":
		return m.monadic(t, a, other, depth)
	case "Prim.(,)":
		return "(" + e(a) + ", " + e(b) + ")"
	case "Prim.->":
		return m.within(func() string {
			left := m.match(a, 1)
			return "(\\" + left + " -> " + e(b) + ")"
		})
	}
	return m.simple(t)
}

func (m *typedMaker) branch(of, t api.Type, depth int) string {
	return m.within(func() string {
		left := m.match(of, 2)
		return left + " -> " + m.of(t, depth-1)
	})
}

// monadic is an expression whose type is a list of a, or Maybe a.
func (m *typedMaker) monadic(t, a, other api.Type, depth int) string {
	from := tapp(t.Subs[0], other)
	return m.within(func() string {
		switch action := m.of(from, depth-1); m.Intn(4) {
		case 0:
			return "(" + action + " >>= " + m.of(tfun(other, t), depth-1) + ")"
		case 1:
			left := m.match(other, 1)
			return "(do { " + left + " <- " + action + "; let { " + m.bindings(depth-2) + " }; return " + m.simple(a) + " })"
		case 2:
			left := m.match(other, 1)
			return "(do { " + left + " <- " + action + "; " + m.of(from, depth-2) + "; " + m.of(t, depth-2) + " })"
		}
		return "(return " + m.of(a, depth-1) + ")"
	})
}

func (m *typedMaker) bindings(depth int) string {
	var left, all []string
	var types []api.Type
	for range 1 + m.Intn(2)*m.Intn(3) {
		t := m.goal(2)
		if m.Intn(6) == 0 {
			t = ttuple(m.goal(1), m.goal(1))
			left = append(left, "("+m.match(t.Subs[0].Subs[1], 1)+", "+m.match(t.Subs[1], 1)+")")
		} else {
			left = append(left, m.typed(t))
		}
		types = append(types, t)
	}
	for i, l := range left {
		all = append(all, m.binding(l, types[i], depth))
	}
	return strings.Join(all, "; ")
}

func (m *typedMaker) binding(left string, t api.Type, depth int) string {
	return m.within(func() string {
		for m.Intn(4) > 0 && !strings.HasPrefix(left, "(") {
			con, a, b := parts(t)
			if con != "Prim.->" {
				break
			}
			left += " " + m.match(a, 1)
			t = b
		}
		switch m.Intn(6) {
		case 0:
			return left + " | " + m.of(tbool(), depth-1) + " = " + m.of(t, depth-1) + " | True = " + m.of(t, depth-1)
		case 1:
			where := m.bindings(depth - 1)
			return left + " = " + m.of(t, depth-1) + " where { " + where + " }"
		}
		return left + " = " + m.of(t, depth)
	})
}

func (m *typedMaker) program() string {
	m.count, m.names, m.typeOf = 0, nil, map[string]api.Type{}
	text := "module M where\n" + strings.ReplaceAll(m.bindings(2+m.Intn(2)), "; v", ";\nv") + "\n"
	if m.Intn(3) > 0 {
		return text
	}
	given := m.pick("", "Eq a => ", "Show a => ", "(Def a, Eq a) => ", "(Nul a, Show a) => ")
	m.names = append(m.names, "v90", "v91")
	m.typeOf["v90"], m.typeOf["v91"] = tint(), tint()
	return text + "data T a = T a\ninstance " + given + "Eq (T a) where\n  T v90 == T v91 = " + m.of(tbool(), 2) + "\n"
}

// wantReference is the types and the error of a program, which must be those
// that are found word by word.
func wantReference(t *testing.T, text string) ([]api.Typed, api.Diag) {
	t.Helper()
	mods := trees(t, small, text)
	want, d := referenceTypes(mods...)
	got, e := infer.Types(mods...)
	if d != e || !slices.Equal(got, want) {
		t.Fatalf("%s\ngot:\n%s %+v\n%s\nwant:\n%s %+v\n%s", text, diagText(e), e, say(got), diagText(d), d, say(want))
	}
	return got, e
}

// P9.1, P9.2: random programs have the types, and the errors, that are found
// word by word.
func TestRandom(t *testing.T) {
	m := &maker{Rand: rand.New(rand.NewSource(900))}
	n := &typedMaker{maker: maker{Rand: rand.New(rand.NewSource(901))}}
	counts := map[string]int{}
	for i := range 2500 {
		text := n.program()
		if i%6 == 0 {
			text = m.program()
		}
		got, d := wantReference(t, text)
		counts[errorText(d.Number)]++
		if d.Number == api.OK && strings.Contains(say(got), "=>") {
			counts["preds"]++
		}
	}
	t.Log(counts)
	for _, what := range []string{"ErrType", "ErrInstance", "ErrAmbiguous", "error 0", "preds"} {
		if counts[what] < 40 {
			t.Error(counts)
		}
	}
}
