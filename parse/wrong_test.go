package parse_test

import (
	"strings"
	"testing"

	"teasel/api"
	"teasel/lex"
	"teasel/parse"
)

// wantWrongFile holds that a whole file has that error there.
func wantWrongFile(t *testing.T, text string, number api.Errno, line, col int) {
	t.Helper()
	wantWrongTokens(t, lay(t, text), number, line, col)
}

// wantWrong holds that declarations have that error there; their first line
// is line 2.
func wantWrong(t *testing.T, text string, number api.Errno, line, col int) {
	t.Helper()
	wantWrongFile(t, header+text, number, line, col)
}

func wantWrongTokens(t *testing.T, ts []api.Token, number api.Errno, line, col int) {
	t.Helper()
	n, d := parse.Parse(ts)
	if want := (api.Diag{Line: line, Col: col, Number: number}); d != want || say(n) != "None" || n.Line != 0 || n.Col != 0 {
		t.Errorf("%s: got %s, %+v; want %+v", texts(ts), say(n), d, want)
	}
}

// texts is tokens in short.
func texts(ts []api.Token) string {
	var words []string
	for _, t := range ts {
		words = append(words, t.Text)
	}
	return strings.Join(words, " ")
}

// wantMarked holds that the tokens of a file, of which layout is not asked,
// have that error behind the mark.
func wantMarked(t *testing.T, number api.Errno, marked string) {
	t.Helper()
	before, after, ok := strings.Cut(marked, "§")
	if !ok {
		t.Fatalf("%q: no mark", marked)
	}
	line := 1 + strings.Count(before, "\n")
	blanks := len(after) - len(strings.TrimLeft(after, " "))
	ts, d := lex.Read(before + after)
	if d != (api.Diag{}) {
		t.Fatalf("%q: lex: %+v", marked, d)
	}
	wantWrongTokens(t, ts, number, line, len(before)+blanks-strings.LastIndex(before, "\n"))
}

// P3.2: files in which a token is the first one that no module goes on with.
func TestRefused(t *testing.T) {
	for _, text := range []string{
		"§", "§x", "§M", "§where", "module§", "module §m", "module M§", "module M §x", "module M §{ }", "module M §N where",
		"module M (§", "module M (§, a) where", "module M (a§", "module M (a, §) where", "module M (a §b) where", "module M (§:+) where {}",
		"module M ((§:+)) where", "module M ((§a)) where", "module M ((+ §+)) where", "module M (§1) where", "module M (a) §(b) where",
		"module M where {§", "module M where {;§", "module M where {} §;", "module M where {} §}", "module M where { §) }",
	} {
		wantMarked(t, api.ErrParse, text)
	}
	for _, text := range []string{
		"import§", "import §a", "import A §B", "import A (§1)", "import A §where {}", "f = x; §import A", "import A; f = x; §import B", "import A; infix 3 +; §import B",
		"§module M where {}", "§where {}", "§|", "§=", "§+ a = b", "§{ }", "§in", "§then", "§of", "§@", "§`", "§)", "§,", "§]", "§=>", "§::", "§->", "§<-",
		"data §a", "data §=", "data T §A", "data T a §=> b", "data T = §a", "data T = §}", "data T = A | §}", "data T = A | §| B", "data T = (§+) a", "data T = (:+ §a)", "data T = §[]", "data T = A §-> b", "data T = A §1",
		"data T = A {§ }", "data T = A { l §= b }", "data T = A { l §}", "data T = A { l :: §}", "data T = A { l :: a, §}", "data T = A { l :: a §; }", "data T = A a §{ l :: b }", "data T = A { l :: a } §b", "data T = A { §B :: a }", "data T = A { (§:) :: a }", "data T §where {}",
		"class §c", "class C §A", "class C a §b", "class C a where { a §}", "class C a where { m §= a }", "class C a where { §M :: a }", "class C a where { m :: a §= b }", "class C a where { m§, n :: a }", "class C a §=> D a",
		"instance §a", "instance C§", "instance C a §b", "instance C a §D", "instance C a => §d", "instance C a => D §e", "instance C D §=> E F", "instance C D §e", "instance C D §E",
		"instance (§a) => C D", "instance (A §B) => C D", "instance (A a §b) => C D", "instance (A a,§) => C D", "instance (A a) §C D", "instance () §C D", "instance (§,) => C D", "instance (§->) => C D", "instance §[a] => C D",
		"instance C [§B]", "instance C [a §b]", "instance C [a]§ b", "instance C (a§)", "instance C (a §b)", "instance C (a,§)", "instance C (a, §B)", "instance C (a, b, c§, d)", "instance C (,,§,)", "instance C (, §a)", "instance C (-> §a)", "instance C (a -> §B)", "instance C (a -> b §-> c)", "instance C (D §E)", "instance C (D §(a))", "instance C (D a§, b)", "instance C (§(a))", "instance C §1", "instance C (D a) §=> b", "instance C (§[])",
		"instance C D where { §data E }", "instance C D where { §infix 3 + }", "instance C D where { f §:: a }",
		"infixl §+", "infixl §10 +", "infixl 9 §", "infixr 3 §f", "infix 3 `§+`", "infix 3 `f §g`", "infix 3 +,§", "infix 3 + §-", "infix 3 §(+)", "infix 3 §=", "infixl §a",
	} {
		wantRefused(t, text)
	}
}

// wantRefused holds that a module's declarations have ErrParse at the mark.
func wantRefused(t *testing.T, marked string) {
	t.Helper()
	wantMarked(t, api.ErrParse, "module M where { "+marked+" }")
}

// P3.2: types that are refused.
func TestRefusedTypes(t *testing.T) {
	for _, text := range []string{
		"§", "§1", "§->", "a ->§", "a -> §-> b", "(a§", "(a -> §)", "(a,§)", "(a, b,§)", "(a, b, c§, d)", "(,,§,)", "(, §a)", "(-> §a)", "[a§", "[a§, b]", "[a §|]", "a §:+ b", "a §+ b", "a §`", "(§+)", "(§:+)", "(a §+)", "a §=> b", "a §_", "a §{ }", `§"a"`,
	} {
		for _, c := range [][2]string{{"class C c where { m :: ", " }"}, {"data D = E { l :: ", " }"}} {
			wantRefused(t, c[0]+text+c[1])
		}
	}
}

// refusedExps are beginnings of expressions, each on a line; the token behind
// the mark is the first one that none of them goes on with.
const refusedExps = `§
§=
§|
§+ a
§]
§)
§,
§->
§<-
§@
§in
§of
§then
§else
§where
§data
§class
§import
§module
§infix
§=>
§::
§{ l = a }
a +§
a + §+ b
a + §= b
a@§
a@ §+
C §@b
(a)§@b
1 §@b
_ §@b
a §:: b
a §=> b
a §in
a §import
a §data
(a§
(a b§
(a,§)
(a, b,§)
(a, b, c§, d)
(,,§,)
(, §a)
(,§
(+§
(+ a§
(+ a§, b)
(+ §+)
(+ a +§)
(a +§, b)
(a, b +§)
(a, §+ b)
(a + §+)
(a + b§
(a + b §]
(§;)
(a §;)
(a §| b)
(a §= b)
(a §-> b)
(a §<- b)
(§->)
(§=)
(§|)
(§::)
(\x -> a +§)
(if a then b else c +§)
(let {} in a +§)
(a + \x -> b +§)
(a, \x -> b +§)
[a§
[a,§]
[§,]
[a §)
[a §| b]
[a §;]
[a +§]
[§+ a]
\ §-> a
\x §= a
\x §+ y -> a
\x ->§
\x -> §->
\§if a
a §\x -> b
f §if a then b else c
f §let {} in a
f §do { a }
f §case a of {}
(f) §if
if §then b else c
if a §else c
if a then §else c
if a then b§
if a then b§; else c
if a then b else§
let §a
let {} §+ c
let {} §; in c
let {} in§
let { a §} in b
let { a = b §in c
let { §data D }
let { §infix 3 + }
let { §import M }
let { a §-> b } in c
case §of {}
case a {§}
case a of §b
case a of { b §}
case a of { b §= c }
case a of { b -> c §-> d }
case a of { b | c §= d }
case a of { b | §-> c }
case a of { b | c -> d §= e }
case a of { b -> c } §d
case a of {} §{ l = a }
do §a
do { a §= b }
do { a §-> b }
do { a <- §}
do { a <- b §<- c }
do { let {} §a }
do { let {} §+ a }
do { let {} §<- a }
do { let {} in §}
do { a §where {} }
do { a } §b
do { a } §{ l = b }
a {§}
a { l§}
a { l §:: b }
a { l =§}
a { l = b,§}
a { l = b, §C = d }
a { §1 = b }
a { l = b§; m = c }
a { l = b l §= c }
C {} {§}
(C a) {§}
(a) {§}
() {§,}
C { l = a } {§}
[] {§}
C {§, l = a}
C { (§:) = a }
C { (+ §+) = a }
C { §+ = a }
x@y {§}
x@C {} {§}`

// P3.2: expressions that are refused, whatever they are a part of.
func TestRefusedExps(t *testing.T) {
	for _, text := range strings.Split(refusedExps, "\n") {
		for _, c := range []string{
			"f = ", "f x | a = ", "f | ", "f = a where { g = ", "f = do { x <- ", "instance C D where { f = ", "f = let { x = ", "f = C { l = ",
			"f = if ", "f = if a then ", "f = if a then b else ", "f = case ", "f = case a of { b -> ", "f = case a of { b | ", `f = \x -> `, "f = x + ", "f = [a, ", "f = (a, ",
		} {
			wantRefused(t, c+text)
		}
	}
	for _, text := range []string{
		"f§", "f §; g", "f = a §= b", "f = a §| b", "f | a = b |§", "f | a §| b", "f | a = b §-> c", "f = a where {} §where {}", "f = a where { §data D }", "f x§, y = 1", "f x §:: a", "f §-> a", "f = a §of {}", "f = [§|]",
	} {
		wantRefused(t, text)
	}
}

// P3.2: tokens that end too early, at each place; then the last one is told.
func TestEndTooEarly(t *testing.T) {
	wantWrongTokens(t, nil, api.ErrParse, 1, 1)
	wantWrongTokens(t, []api.Token{}, api.ErrParse, 1, 1)
	wantWrongTokens(t, []api.Token{{Kind: api.EndTok, Line: 3, Col: 4}}, api.ErrParse, 3, 4)
	ts := lay(t, api.Prelude)
	for i := 1; i < len(ts); i += 7 {
		last := ts[i-1]
		wantWrongTokens(t, ts[:i], api.ErrParse, last.Line, last.Col)
		end := api.Token{Kind: api.EndTok, Line: 7000, Col: -8}
		cut := append(append([]api.Token{}, ts[:i]...), end, end, last)
		wantWrongTokens(t, cut, api.ErrParse, 7000, -8)
	}
	last := ts[len(ts)-2]
	wantWrongTokens(t, ts[:len(ts)-1], api.ErrParse, last.Line, last.Col)
}

// P3.2: the braces of a block have the same N, those of a record N 0.
func TestRefusedBraces(t *testing.T) {
	for _, c := range []struct {
		marked string
		braces []int
	}{
		{"module M where { §}", []int{0, 1}},
		{"module M where { §}", []int{1, 0}},
		{"module M where { §}", []int{1, 2}},
		{"module M where { f = let { §} in a }", []int{0, 1, 0}},
		{"module M where { f = let { §} in a }", []int{1, 0, 1}},
		{"module M where { f = let { a = b §} in a }", []int{1, 0, 1}},
		{"module M where { f = let { a = b ; §} in a }", []int{1, 0, 1}},
		{"module M where { f = do { a §} }", []int{1, 0, 1}},
		{"module M where { f = case a of { §} }", []int{1, 0, 1}},
		{"module M where { class C a where { §} }", []int{0, 3, 0}},
		{"module M where { f = C §{ } }", []int{1, 1, 1}},
		{"module M where { f = C { §} }", []int{1, 0, 1}},
		{"module M where { f = C { l = a §} }", []int{1, 0, 1}},
		{"module M where { f = a §{ l = a } }", []int{2, 2, 2}},
		{"module M where { f = a { l = b } §{ l = a } }", []int{0, 0, 0, 1}},
		{"module M where { f = C {} §{ l = a } }", []int{0, 0, 0, 1}},
		{"module M where { data D = E §{ l :: a } }", []int{0, 1}},
		{"module M where { data D = E { l :: a §} }", []int{0, 0, 1}},
	} {
		before, after, _ := strings.Cut(c.marked, "§")
		ts, _ := lex.Read(before + after)
		place := 0
		for i := range ts {
			if (ts[i].Text == "{" || ts[i].Text == "}") && place < len(c.braces) {
				ts[i].N = c.braces[place]
				place++
			}
		}
		wantWrongTokens(t, ts, api.ErrParse, 1, len(before)+1)
	}
}

// P3.2: a word is one by its Kind, not by its Text alone.
func TestRefusedKinds(t *testing.T) {
	text := "module M (f, (+)) where { import A ; infixl 3 + ; data D a = C { l :: a -> a } | (:+) ; class K a where { m :: a } ; instance () => K D where { f = x } ; " +
		"f x@_ | a = \\b -> [if c then 1 else \"s\"] | d = let { e = g } in case h of { i -> do { j <- k } } }"
	ts, _ := lex.Read(text)
	for i := range ts {
		for _, kind := range []int{0, -1, api.EndTok + 1} {
			odd := append([]api.Token{}, ts...)
			odd[i].Kind = kind
			wantWrongTokens(t, odd, api.ErrParse, odd[i].Line, odd[i].Col)
		}
		if ts[i].Kind == api.KeyTok || ts[i].Kind == api.SignTok {
			odd := append([]api.Token{}, ts...)
			odd[i].Kind = api.EndTok
			wantWrongTokens(t, odd, api.ErrParse, odd[i].Line, odd[i].Col)
		}
	}
}

// P3.2: brackets within one another, of all sorts, at the limit and beyond it.
func TestNest(t *testing.T) {
	in := func(open, shut string, n int, within string) string {
		return "module M where { f = " + strings.Repeat(open, n) + within + strings.Repeat(shut, n) + " }"
	}
	for _, c := range []struct{ open, shut string }{
		{"(", ")"}, {"[", "]"}, {"(a, ", ")"}, {"(+ ", ")"}, {"C { l = ", "}"}, {"do { ", " }"}, {"let { a = ", " } in b"}, {"case a of { b -> ", " }"}, {"x { a = b, l = ", " }"},
	} {
		wantFine(t, in(c.open, c.shut, 62, "(x)"))
		wantFine(t, in(c.open, c.shut, 63, "x"))
		wantMarked(t, api.ErrNest, in(c.open, c.shut, 63, "§(x)"))
		for _, last := range []string{"§()", "§(+)", "§(,)", "§[]", "§[a]", "x §{ l = a }", "C §{}", "do §{ a }", "let §{ } in a", "case a of §{ }"} {
			wantMarked(t, api.ErrNest, in(c.open, c.shut, 63, last))
			wantFine(t, strings.Replace(in(c.open, c.shut, 62, last), "§", "", 1))
		}
	}
	wantFine(t, in("(", ")", 63, "x) (y"))
	wantMarked(t, api.ErrNest, in("(", ")", 63, "§((((x"))
}

func wantFine(t *testing.T, text string) {
	t.Helper()
	ts, d := lex.Read(text)
	if d != (api.Diag{}) {
		t.Fatalf("%q: lex: %+v", text, d)
	}
	n, d := parse.Parse(ts)
	if d != (api.Diag{}) || !parse.Right(n) {
		t.Errorf("%q: %+v", text, d)
	}
}

// P3.2: the bracket that is too deep in types, items and elsewhere; and that a
// token that is refused is told as such, be it a bracket or come first.
func TestNestElsewhere(t *testing.T) {
	beginning := "module M where { class C c where { m :: " + strings.Repeat("(", 31) + strings.Repeat("[", 31)
	wantMarked(t, api.ErrNest, beginning+"§(a)")
	wantMarked(t, api.ErrNest, beginning+"§()")
	wantMarked(t, api.ErrNest, beginning+"§(->)")
	wantMarked(t, api.ErrNest, beginning+"a -> §[]")
	wantFine(t, beginning+"a"+strings.Repeat("]", 31)+strings.Repeat(")", 31)+" } }")
	deep := "module M where { f = " + strings.Repeat("(", 63)
	wantMarked(t, api.ErrParse, deep+"x + §{")
	wantMarked(t, api.ErrParse, deep+"§{ }")
	wantMarked(t, api.ErrNest, deep+") (§((")
	wantMarked(t, api.ErrNest, deep+"§( }")
	wantMarked(t, api.ErrNest, deep+"a + §[")
	wantMarked(t, api.ErrNest, "module M where { f = "+strings.Repeat("(", 62)+"a) ((§(")
	wantMarked(t, api.ErrParse, "module M where { §= "+strings.Repeat("(", 70))
	ts := lay(t, "module M where\nf = "+strings.Repeat("do ", 63)+"do x")
	wantWrongTokens(t, ts, api.ErrNest, 2, 5+63*3+3)
	wantFine(t, "module M where { f = "+strings.Repeat("() (+) [] ", 50)+"}")
}
