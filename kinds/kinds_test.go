package kinds_test

import (
	"slices"
	"strconv"
	"strings"
	"testing"

	"teasel/api"
	"teasel/kinds"
)

// P6.1: the chapter's examples.
func TestExamples(t *testing.T) {
	wantKinds(t, "data T a = A a\ndata U f = B (f Int)\ndata V f a = C (f a)",
		"T :: * -> *; U :: (* -> *) -> *; V :: (* -> *) -> * -> *")
	wantKinds(t, "data P a = Q\nclass F f where { m :: f a -> f b }", "P :: * -> *; F :: * -> *")
}

// P6.1: how kinds are written: a kind ahead of an arrow is in parentheses if
// it is an arrow itself.
func TestWriting(t *testing.T) {
	for _, c := range [][2]string{
		{"data T = A", "*"},
		{"data T a = A", "* -> *"},
		{"data T a b = A", "* -> * -> *"},
		{"data T a b c = A", "* -> * -> * -> *"},
		{"data T f = A (f Int)", "(* -> *) -> *"},
		{"data T f = A (f Int Int)", "(* -> * -> *) -> *"},
		{"data T a f = A (f a)", "* -> (* -> *) -> *"},
		{"data T f g = A (f Int) (g Int)", "(* -> *) -> (* -> *) -> *"},
		{"data T f a g = A (f Int) (g Int)", "(* -> *) -> * -> (* -> *) -> *"},
		{"data T g = A (g IO)", "((* -> *) -> *) -> *"},
		{"data T g f = A (g f) (f Int)", "((* -> *) -> *) -> (* -> *) -> *"},
		{"data T g = A (g IO Int)", "((* -> *) -> * -> *) -> *"},
		{"data T g = A (g Int IO)", "(* -> (* -> *) -> *) -> *"},
		{"data T h g f = A (h g) (g f) (f Int)", "(((* -> *) -> *) -> *) -> ((* -> *) -> *) -> (* -> *) -> *"},
		{"data T g = A (g (->) IO ())", "((* -> * -> *) -> (* -> *) -> * -> *) -> *"},
		{"class T f where m :: f (->)", "(* -> * -> *) -> *"},
		{"class T f where m :: f IO -> f []", "(* -> *) -> *"},
		{"class T f where m :: f", "*"},
		{"class T f where m :: f (,,) Int", "(* -> * -> * -> *) -> * -> *"},
	} {
		wantKinds(t, c[0], "T :: "+c[1])
	}
}

// P6.1: the kinds of the types of Prim, as those of an argument, and as what
// is applied.
func TestPrim(t *testing.T) {
	for _, c := range []struct {
		name, kind string
		arguments  int
	}{
		{"Int", "*", 0}, {"Bool", "*", 0}, {"()", "*", 0},
		{"IO", "(* -> *)", 1}, {"[]", "(* -> *)", 1},
		{"(,)", "(* -> * -> *)", 2}, {"(->)", "(* -> * -> *)", 2},
		{"(,,)", "(* -> * -> * -> *)", 3},
	} {
		wantKinds(t, "data T f = A (f "+c.name+")", "T :: ("+c.kind+" -> *) -> *")
		full := "(" + c.name + strings.Repeat(" Int", c.arguments) + ")"
		wantKinds(t, "data T = A "+full, "T :: *")
		wantKindError(t, "§data T = A ("+c.name+strings.Repeat(" Int", c.arguments+1)+")")
		for i := range c.arguments {
			wantKindError(t, "§data T = A ("+c.name+strings.Repeat(" Int", i)+")")
			arguments := slices.Repeat([]string{"Int"}, c.arguments)
			arguments[i] = "IO"
			wantKindError(t, "§data T = A ("+c.name+" "+strings.Join(arguments, " ")+")")
			arguments[i] = "a"
			wantKinds(t, "data T a = A ("+c.name+" "+strings.Join(arguments, " ")+")", "T :: * -> *")
		}
	}
	wantKinds(t, "data T a b c d e f = A [a] (b, c) (d -> e) (IO f)", "T :: * -> * -> * -> * -> * -> * -> *")
	wantKinds(t, "data T a b c = A (a, b, c)", "T :: * -> * -> * -> *")
	for _, wrong := range []string{"[IO]", "(IO, Int)", "(Int, [])", "(Int, Int, IO)", "(IO -> Int)", "(Int -> IO)", "(() Int)", "((,) (,) Int)"} {
		wantKindError(t, "§data T = A "+wrong)
	}
}

// P6.1: fields and constructors of all sorts.
func TestDatas(t *testing.T) {
	for _, c := range [][2]string{
		{"data T", "T :: *"},
		{"data T a", "T :: * -> *"},
		{"data T f = A | B { l :: f Int, (#) :: f Bool }", "T :: (* -> *) -> *"},
		{"data T f a = A a | B { l :: f, m :: a } | C f", "T :: * -> * -> *"},
		{"data T f a = A a | B { l :: f a } | (:+) (f (T f a))", "T :: (* -> *) -> * -> *"},
		{"data T f = A (f (T f))", "T :: (* -> *) -> *"},
		{"data T a = A (T (T a)) (T Int)", "T :: * -> *"},
		{"data T a = A (T IO)", "T :: (* -> *) -> *"},
		{"data T f a = A (T f a) (f a)", "T :: (* -> *) -> * -> *"},
		{"data T f g = A (T g f) (f Int)", "T :: (* -> *) -> (* -> *) -> *"},
		{"data T f g = A (T g f)", "T :: * -> * -> *"},
		{"data T a b c = A (T b c a) (b Int)", "T :: (* -> *) -> (* -> *) -> (* -> *) -> *"},
		{"data T f g a = A (f (g a)) (g (f a))", "T :: (* -> *) -> (* -> *) -> * -> *"},
		{"data T h f g = A (h f g) (h g f) (g [])", "T :: (((* -> *) -> *) -> ((* -> *) -> *) -> *) -> ((* -> *) -> *) -> ((* -> *) -> *) -> *"},
		{"data T f = A (f Int -> f Bool)", "T :: (* -> *) -> *"},
		{"data T f a = A (f a -> a)", "T :: (* -> *) -> * -> *"},
		{"data T f a b = A (f a b) [a] | B b", "T :: (* -> * -> *) -> * -> * -> *"},
		{"data T f a b = A (f a b) (a b)", "T :: ((* -> *) -> * -> *) -> (* -> *) -> * -> *"},
	} {
		wantKinds(t, c[0], c[1])
	}
}

// P6.1: a kind that nothing determines is *; one that is determined in part
// has * in it.
func TestUndetermined(t *testing.T) {
	for _, c := range [][2]string{
		{"data T a b = A b", "T :: * -> * -> *"},
		{"data T f a = A (f a)", "T :: (* -> *) -> * -> *"},
		{"data T f a b = A (f a b)", "T :: (* -> * -> *) -> * -> * -> *"},
		{"data T f g a = A (f (g a))", "T :: (* -> *) -> (* -> *) -> * -> *"},
		{"class K k", "K :: *"},
		{"class K k where { }", "K :: *"},
		{"class K k where { m :: k a }", "K :: * -> *"},
		{"class K k where { m :: f k }", "K :: *"},
		{"class K k where { m :: k a b -> k b a }", "K :: * -> * -> *"},
		{"data P a = Q\ndata T f = A (P f)", "P :: * -> *; T :: * -> *"},
		{"data P a = Q\ndata T f = A (P f)\ndata U g = B (T g)", "P :: * -> *; T :: * -> *; U :: * -> *"},
	} {
		wantKinds(t, c[0], c[1])
	}
}

// P6.1: the kinds of a module's types and classes are found together, whatever
// their order.
func TestTogether(t *testing.T) {
	for _, c := range [][2]string{
		{"data A a = K (B a)\ndata B b = L (A b) [b]", "A :: * -> *; B :: * -> *"},
		{"data A a = K (B a)\ndata B b = L (b Int)", "A :: (* -> *) -> *; B :: (* -> *) -> *"},
		{"data B b = L (b Int)\ndata A a = K (B a)", "B :: (* -> *) -> *; A :: (* -> *) -> *"},
		{"data A a = K (B a)\ndata B b = L (A b)", "A :: * -> *; B :: * -> *"},
		{"data A a = K (B a)\ndata B b = L (A b)\ndata C = N (A IO)", "A :: (* -> *) -> *; B :: (* -> *) -> *; C :: *"},
		{"data C = N (A IO)\ndata A a = K (B a)\ndata B b = L (A b)", "C :: *; A :: (* -> *) -> *; B :: (* -> *) -> *"},
		{"data P a = Q\ndata T f = A (P f) (f Int)", "P :: (* -> *) -> *; T :: (* -> *) -> *"},
		{"data T f = A (f Int) (P f)\ndata P a = Q", "T :: (* -> *) -> *; P :: (* -> *) -> *"},
		{"data T = A (P IO)\ndata P a = Q", "T :: *; P :: (* -> *) -> *"},
		{"data P a = Q\nclass K k where m :: P k -> k Int", "P :: (* -> *) -> *; K :: * -> *"},
		{"class K k where m :: P k -> k Int\ndata P a = Q", "K :: * -> *; P :: (* -> *) -> *"},
		{"class K k where m :: P k\ndata P a = Q (a Int)", "K :: * -> *; P :: (* -> *) -> *"},
		{"class K k where m :: P a -> k\ndata P a = Q (a Int)", "K :: *; P :: (* -> *) -> *"},
		{"class K k where m :: P IO -> k\ndata P a = Q", "K :: *; P :: (* -> *) -> *"},
		{"data F f = A (f G)\ndata G g = B (g H)\ndata H h = C (h Int)",
			"F :: (((((* -> *) -> *) -> *) -> *) -> *) -> *; G :: (((* -> *) -> *) -> *) -> *; H :: (* -> *) -> *"},
		{"data T f = A (f P)\ndata P a b = Q", "T :: ((* -> * -> *) -> *) -> *; P :: * -> * -> *"},
	} {
		wantKinds(t, c[0], c[1])
	}
}

// P6.1: a variable of a DData, and that of a DClass, are one throughout it,
// but those of the same name elsewhere are others; so are those of DMethods.
func TestVariables(t *testing.T) {
	for _, c := range [][2]string{
		{"data T a = A a\ndata U a = B (a Int)", "T :: * -> *; U :: (* -> *) -> *"},
		{"data T a b = A a (b Int)\ndata U b a = B b (a Int)", "T :: * -> (* -> *) -> *; U :: * -> (* -> *) -> *"},
		{"class K a where m :: a\ndata T a = A (a Int)", "K :: *; T :: (* -> *) -> *"},
		{"class K a where m :: a\nclass L a where n :: a Int", "K :: *; L :: * -> *"},
		{"class K k where { m :: a -> k; n :: a Int -> k; o :: a IO -> k }", "K :: *"},
		{"class K k where { m :: a -> k }\nclass L a where { n :: k Int -> a }", "K :: *; L :: *"},
		{"class K k where { m :: k a; n :: a Int -> k Int }", "K :: * -> *"},
		{"class K k where { m :: k a -> a; n :: k b }", "K :: * -> *"},
		{"class K k where { m :: k a; n :: k IO }", "K :: (* -> *) -> *"},
		{"class K k where { n :: k IO; m :: k a -> b a }", "K :: (* -> *) -> *"},
		{"class K k where { m :: k a -> k b -> a Int -> c }", "K :: (* -> *) -> *"},
		{"class K k where { m :: f k -> f Int }", "K :: *"},
		{"class K k where { m :: f k -> f IO }", "K :: * -> *"},
	} {
		wantKinds(t, c[0], c[1])
	}
	for _, wrong := range []string{
		"§data T a = A a (a Int)",
		"§data T a = A a | B (a Int)",
		"§data T a = A { l :: a } | B { m :: a Int }",
		"§class K k where { m :: k; n :: k Int }",
		"§class K k where { m :: k a -> a; n :: k IO }",
		"§class K k where { m :: a -> a Int -> k }",
		"§class K k where { m :: k a -> a -> a Int }",
	} {
		wantKindError(t, wrong)
	}
}

// P6.1: all DDatas and DClasses in the order of the tree, whatever stands
// between them; nothing else has a kind.
func TestOrder(t *testing.T) {
	wantKinds(t, "f = f", "")
	wantKinds(t, "", "")
	wantKinds(t, "data Z = Z\nf = f\nclass Y y\ninstance Y Z\ndata A a = A\ninfixl 3 +\n(+) = f\n(g, h) = f\nclass B f where m :: f Int\ndata X = X\ninstance B A",
		"Z :: *; Y :: *; A :: * -> *; B :: * -> *; X :: *")
	if all, d := kinds.Kinds(); len(all) != 0 || d != (api.Diag{}) {
		t.Error(all, d)
	}
}

// P6.1: module by module, in dependency order, by qualified names.
func TestModules(t *testing.T) {
	for _, c := range []struct {
		texts []string
		want  string
	}{
		{[]string{"module B where\ndata T = C", "module A where\ndata U a = D"}, "A.U :: * -> *; B.T :: *"},
		{[]string{"module A where\nimport B\ndata U f = D (f T)", "module B where\ndata T = C"}, "B.T :: *; A.U :: (* -> *) -> *"},
		{[]string{"module A where\nimport B\ndata U f = D (f T)", "module B where\ndata T a = C"}, "B.T :: * -> *; A.U :: ((* -> *) -> *) -> *"},
		{[]string{"module A where\nimport B\nimport C\ndata U f = D (f T S)", "module B where\nimport C\ndata T f = C (S f)", "module C where\ndata S f = C (f Int)"},
			"C.S :: (* -> *) -> *; B.T :: (* -> *) -> *; A.U :: (((* -> *) -> *) -> ((* -> *) -> *) -> *) -> *"},
		// Types of one name in several modules.
		{[]string{"module A where\ndata T f = C (f Int)", "module B where\ndata T = D", "module C where\nimport B\ndata X f = E (f T)", "module D where\nimport A\ndata X f = E (f T)"},
			"A.T :: (* -> *) -> *; B.T :: *; C.X :: (* -> *) -> *; D.X :: (((* -> *) -> *) -> *) -> *"},
		// What is undetermined in a module is * in those that import it.
		{[]string{"module A where\ndata P a = Q", "module B where\nimport A\ndata X a f = E (P a) (f P)"},
			"A.P :: * -> *; B.X :: * -> ((* -> *) -> *) -> *"},
		{[]string{"module A where\nclass K k where { m :: k a -> P a }\ndata P a = Q", "module B where\nimport A\ninstance K IO\ninstance K P\ndata X a = E\ninstance K X"},
			"A.K :: * -> *; A.P :: * -> *; B.X :: * -> *"},
	} {
		if got := kindsOf(t, trees(t, c.texts...)...); got != c.want {
			t.Errorf("%q:\ngot  %s\nwant %s", c.texts, got, c.want)
		}
		other := slices.Clone(c.texts)
		slices.Reverse(other)
		if got := kindsOf(t, trees(t, other...)...); got != c.want {
			t.Errorf("%q:\ngot  %s\nwant %s", other, got, c.want)
		}
	}
}

const preludeKinds = "Prelude.Maybe :: * -> *; Prelude.Either :: * -> * -> *; Prelude.Eq :: *; Prelude.Ord :: *; " +
	"Prelude.Show :: *; Prelude.Functor :: * -> *; Prelude.Monad :: * -> *"

// P6.1: the given Prelude, and modules beside it.
func TestPrelude(t *testing.T) {
	if got := kindsOf(t, tree(t, api.Prelude)); got != preludeKinds {
		t.Error(got)
	}
	const beside = `module M where
data V f a = C (f a)
data State s a = State (s -> (a, s))
data Fix f = In (f (Fix f))
data Compose f g a = Compose { un :: f (g a) }
data Free f a = Pure a | Free (f (Free f a))
data StateT s m a = StateT (s -> m (a, s))
class MonadT t where lift :: Monad' m -> m a -> t m a
data Monad' m = Monad' (m Int)
instance Monad (State s)
instance Monad (StateT s m)
instance Functor f => Functor (Free f)
instance (Functor f, Functor g) => Functor (Compose f g)
instance Functor (Either a)
instance MonadT (StateT s)
instance (Eq a, Eq b) => Eq (Either a b)
instance Functor m => Functor (V m)
`
	want := preludeKinds + "; M.V :: (* -> *) -> * -> *; M.State :: * -> * -> *; M.Fix :: (* -> *) -> *; " +
		"M.Compose :: (* -> *) -> (* -> *) -> * -> *; M.Free :: (* -> *) -> * -> *; M.StateT :: * -> (* -> *) -> * -> *; " +
		"M.MonadT :: (* -> *) -> * -> *; M.Monad' :: (* -> *) -> *"
	if got := kindsOf(t, trees(t, beside, api.Prelude)...); got != want {
		t.Errorf("got  %s\nwant %s", got, want)
	}
}

// stars is how many a kind has, as it is written.
func stars(kind string) int {
	return strings.Count(kind, "*")
}

// many is so many variables of one name with numbers, with a blank ahead of
// each.
func many(name string, count int) string {
	var b strings.Builder
	for i := range count {
		b.WriteString(" " + name + strconv.Itoa(i))
	}
	return b.String()
}

// P6.1: a kind may have 64 stars.
func TestManyStars(t *testing.T) {
	for _, text := range []string{
		"data T" + many("a", 63),
		"data T f = A (f" + strings.Repeat(" Int", 62) + ")",
		"data T f" + many("a", 31) + " = A (f" + many("a", 31) + ")",
		"class K f where m :: f" + many("a", 63),
		"class K f where m :: f" + strings.Repeat(" IO", 31) + " Int",
		"class K f where m :: g" + many("a", 100) + " -> h" + many("b", 300) + " -> f" + many("a", 63),
	} {
		all, d := kinds.Kinds(tree(t, "module M where\n"+text))
		if d != (api.Diag{}) || stars(all[0].Kind) != 64 {
			t.Errorf("%q: %s %+v", text, say(all), d)
		}
	}
	wantKinds(t, "class K f where m :: g"+many("a", 100)+" -> h"+many("b", 300)+" -> f Int", "K :: * -> *")
}
