package desugar_test

import (
	"math/rand"
	"strconv"
	"strings"
	"testing"

	"teasel/api"
	"teasel/desugar"
)

// Programs that are made at random, of functions of containers: each function has
// preds of a variable that is applied, and uses others for other types.

// around is the variables that are known somewhere.
type around struct {
	containers []string
	elements   []string
	functions  []string // of a container, that are local
	others     []string // of an element, that are local
}

// predsMaker makes programs, whose functions take a container and an element.
type predsMaker struct {
	*rand.Rand
	count     int
	functions []string
	inMain    bool // where p may be used, as its instances use the functions
}

func (m *predsMaker) fresh(letter string) string {
	m.count++
	return letter + strconv.Itoa(m.count)
}

func (m *predsMaker) one(of ...string) string { return of[m.Intn(len(of))] }

func (m *predsMaker) container(a around, depth int) string {
	if depth == 0 {
		if len(a.containers) == 0 || m.Intn(8) == 0 {
			x := m.element(a, 0)
			return m.one("["+x+"]", "(Just "+x+")", "(W ["+x+"])", "(W (Just "+x+"))")
		}
		return m.one(a.containers...)
	}
	inner, x := m.container(a, depth-1), m.fresh("v")
	pair := "(fmap (\\" + x + " -> (" + x + ", " + m.element(a, 1) + ")) " + inner + ")"
	own := "(fmap (\\" + x + " -> V " + x + " (+ 1) " + m.element(a, 1) + ") " + inner + ")"
	return m.one("(l "+inner+")", "(k "+inner+")", pair, own)
}

func (m *predsMaker) element(a around, depth int) string {
	if depth > 0 {
		x := m.element(a, depth-1)
		return m.one("["+x+"]", "("+x+", "+m.element(a, depth-1)+")", "(Just "+x+")", x)
	}
	if len(a.elements) > 0 && m.Intn(3) > 0 {
		return m.one(a.elements...)
	}
	return m.one("1", "True", "2")
}

// text is an expression of a text.
func (m *predsMaker) text(a around, depth int) string {
	if depth == 0 {
		return m.one("(show "+m.element(a, 1)+")", "(h0 "+m.container(a, m.Intn(3))+")", "(show "+m.container(a, m.Intn(3))+")")
	}
	switch how := m.Intn(8); {
	case how == 0:
		text, inner := m.local(a, depth-1)
		return "(let { " + text + " } in " + m.text(inner, depth-1) + ")"
	case how == 1 && m.inMain:
		return "(p " + m.one("1", "[True]", "(Just 1)", "[Just [2]]", "(V 1 (+ 1) True)") + ")"
	case how == 2 && len(a.functions) > 0:
		return "(" + m.one(a.functions...) + " " + m.container(a, m.Intn(2)) + ")"
	case how == 3 && len(a.others) > 0:
		return "(" + m.one(a.others...) + " " + m.element(a, 1) + ")"
	case how < 6 && len(m.functions) > 0:
		return "(" + m.one(m.functions...) + " " + m.container(a, m.Intn(3)) + " " + m.element(a, 1) + ")"
	}
	return "(" + m.text(a, depth-1) + " ++ " + m.text(a, depth-1) + ")"
}

// local is declarations of a List, and what is known behind them.
func (m *predsMaker) local(a around, depth int) (string, around) {
	var parts []string
	all := a
	for range 1 + m.Intn(2) {
		name, x, inner := m.fresh("g"), m.fresh("z"), a
		switch m.Intn(3) {
		case 0:
			inner.containers = append([]string{x}, a.containers...)
			inner.functions = all.functions
			parts = append(parts, name+" "+x+" = "+m.text(inner, depth))
			all.functions = append([]string{name}, all.functions...)
		case 1:
			inner.elements = append([]string{x}, a.elements...)
			parts = append(parts, name+" "+x+" = if "+x+" == "+x+" then "+m.text(inner, depth)+" else []")
			all.others = append([]string{name}, all.others...)
		case 2:
			parts = append(parts, name+" = "+m.text(a, depth))
			all.elements = append([]string{name}, all.elements...)
		}
	}
	m.Shuffle(len(parts), func(i, j int) { parts[i], parts[j] = parts[j], parts[i] })
	return strings.Join(parts, "; "), all
}

func (m *predsMaker) program() string {
	functions := "h0 x = if x == x then show x else []\n"
	for range 2 + m.Intn(4) {
		name := m.fresh("f")
		functions += name + " x y = " + m.text(around{containers: []string{"x"}, elements: []string{"y"}}, 3) + "\n"
		m.functions = append(m.functions, name)
	}
	x := around{elements: []string{"x"}}
	instances := strings.NewReplacer("MAYBE", m.text(x, 2), "OWN", m.text(x, 2)).Replace(`
data V a b c = V a b c
instance (Show c, Show a) => Show (V a b c) where { show (V x y z) = "V" ++ show (x, z) }
instance (Eq c, Eq a) => Eq (V a b c) where { V x y z == V a b c = (z, x) == (c, a) }
instance F f => F (W f) where { elements (W x) = elements x }
instance Functor f => Functor (W f) where { fmap g (W x) = W (fmap g x) }
class P a where { p :: a -> [Int]; r :: a -> [a] }
instance P Int where { p x = show x; r x = [x] }
instance P Bool where { p x = show x; r x = [x, not x] }
instance P a => P [a] where { p [] = []; p (x:xs) = p x ++ concat (map p (r x)) ++ p xs; r x = [x] }
instance (Eq a, Show a) => P (Maybe a) where { p (Just x) = MAYBE; p Nothing = "n"; r x = [x] }
instance (Show a, Eq a, Show c) => P (V a b c) where { p (V x y z) = OWN ++ show z; r x = [x, x] }
`)
	m.inMain = true
	main := m.text(around{}, 3) + " ++ " + m.text(around{}, 3) + " ++ " + m.one(m.functions...) + " [1, 2] True ++ " + m.one(m.functions...) + " (Just [3]) 4"
	return "main = putBytes (" + main + ") >> return 0\n" + doubling + instances + functions
}

// Programs write the same, whether names take dictionaries or types.
func TestRandomPreds(t *testing.T) {
	ends := map[int]int{}
	for seed := range int64(50) {
		text := (&predsMaker{Rand: rand.New(rand.NewSource(seed))}).program()
		p, d := desugar.Front(files(text))
		if d != (api.Diag{}) {
			t.Fatalf("%d: %s: %+v", seed, text, d)
		}
		want := run(p, "")
		if ends[want.End]++; want.End != api.Running {
			wantBoth(t, "", want, text)
		}
	}
	t.Log(ends)
	if ends[api.Done] < 40 || len(ends) > 2 {
		t.Error(ends)
	}
}
