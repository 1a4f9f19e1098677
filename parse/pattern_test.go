package parse_test

import (
	"slices"
	"strings"
	"testing"

	"teasel/api"
	"teasel/lex"
)

// noPatterns are expressions that are no patterns, each on a line; the mark is
// where that is told.
const noPatterns = `§if a then b else c
§let {} in a
§let { _ = do {} } in _
§\x -> a
§\(f x) -> _
§case a of {}
§case _ of { f x -> _ }
§do { a }
§do {}
§(a +)
§(+ a)
§(_ +)
§x { l = a }
§_ { l = _ }
(§f x) { l = _ }
§C {} { l = a }
§f x
(§f x) y
§(+) x y
§1 x
§"a" x
§x@y z
§_ x
§(a, b) c
§[] a
§C {} a
(§if a then b else c) d
§x { l = a } b
§f (if a then b else c) _
C (§f x)
C x (§f y) z
(C x) (D (§f y))
(x, §f y)
[x, §f y, g z]
x@(§f y)
x@(D (§f y))
C { l = §f x }
C { l = x, m = §f x }
x §+ y
x : y §+ z
x §+ y + z
x §+ (f y)
x : (§f y) + z
(§f x) : y
x §` + "`f`" + ` y
(x §+ y, z)
C (x §+ y)
(x §+ y) : z
x : (y §+ z)`

// P3.2: what is no pattern where one must be.
func TestNoPatterns(t *testing.T) {
	for _, text := range strings.Split(noPatterns, "\n") {
		for _, c := range [][2]string{
			{"f (", ") = a"}, {"f a b (", ") c | d = e"}, {"(", ") `f` a = b"}, {"a + (", ") = b"},
			{"a : (", ") = b"}, {"C (", ") = b"}, {"[a, ", "] = b"}, {"x@(", ") = b"}, {"C { l = ", " } = b"},
			{`f = \(`, `) -> a`}, {`f = \x (`, `) -> a`}, {"f = case a of { ", " -> b }"}, {"f = case a of { b -> c; ", " | d -> e }"},
			{"f = do { ", " <- a; b }"}, {"f = let { g (", ") = a } in b"}, {"f = a where { g (", ") = a }"}, {"f = do { let { g (", ") = a }; b }"},
			{"instance C D where { f (", ") = a }"}, {"f = let { C (", ") = a } in b"},
		} {
			wantMarked(t, api.ErrPattern, "module M where { "+c[0]+text+c[1]+" }")
		}
	}
}

// P3.2: left sides that are no patterns, but for what may be a clause.
func TestWrongLeftSides(t *testing.T) {
	for _, text := range []string{
		"§if a then b else c = d", "§let {} in a = b", "§\\x -> a = b", "§case a of {} = b", "§do { a } = b", "§(a +) = b", "§(+ a) = b", "§x { l = a } = b", "(§x { l = a }) = b",
		"§1 x = a", "§(a, b) c = d", "§_ x = a", "§x@y z = a", "§C {} a = b", "x@§y { l = f x } = a", "§x@(y { l = 1 }) a = b", "§x { l = 1 } + y = z",
		"x + y §+ z = a", "x + y §- z §* w = a", "x `f` y §`g` z = a", "x : y + z : a §+ b = c", "x + (y §+ z) = a", "(x §+ y) + z = a", "(x §+ y) + z + a = b",
		"(§f x) + y = z", "x + §f y = z", "x + §f y + z = a", "x + y §+ f z = a", "§f x + y = z", "§f x : y = z", "x : §f y = z", "(§if a then b else c) : d = e",
		"f (§g x) (h y) = a", "f _ (§g _) = a", "(f (§g x)) y = a", "f §(+ x) = a", "x@(§f y) = a", "x@y@(§f z) = a",
		"x + §1 2 3 = a", "§1 2 + x = a", "C + §f x = a",
	} {
		for _, c := range [][2]string{{"", ""}, {"g = let { ", " } in h"}, {"g = h where { ", " }"}, {"g = do { let { ", " }; h }"}, {"g = case h of { i -> j where { ", " } }"}} {
			marked := firstMark(text)
			wantMarked(t, api.ErrPattern, "module M where { "+c[0]+marked+c[1]+" }")
		}
	}
}

// firstMark is a text with its first mark alone.
func firstMark(text string) string {
	before, after, _ := strings.Cut(text, "§")
	return before + "§" + strings.ReplaceAll(after, "§", "")
}

// P3.2: what is a pattern's alone, elsewhere.
func TestPatternsElsewhere(t *testing.T) {
	for _, text := range []string{
		"§_", "(§_)", "f §_", "§_ f", "a + §_", "§_ + a", "(§_ +)", "(+ §_)", "(a, §_)", "[§_]", "if §_ then a else b", "if a then §_ else b", "if a then b else §_", `\_ -> §_`, "let { _ = a } in §_", "let { _ = §_ } in a",
		"case §_ of {}", "case a of { _ -> §_ }", "case a of { _ | §_ -> b }", "case a of { _ -> b where { c = §_ } }", "do { §_ }", "do { _ <- §_; a }", "do { let { _ = §_ }; a }", "do { §_; a }", "C { l = §_ }", "§_ { l = a }", "x { l = §_ }",
		"§x@y", "f §x@y", "§x@_", "§x@(do {})", "§x@(f _)", "[§x@(_, _)]", "(§x@_ +)", "§x@_ { l = _ }",
		"§do {}", "§do { ; ; }", "§do { x <- a }", "§do { a; let {} }", "§do { a; x <- b }", "§do { let { _ = do {} } }", "do { §do {} }", "do { x <- §do {}; a }",
		"f (§do {}) _", "f §_ (do {})", `\x -> §do {}`,
	} {
		for _, c := range [][2]string{{"f = ", ""}, {"f | ", " = a"}, {"f | a = ", ""}, {"f | a = b | ", " = c"}, {"f = a where { g = ", " }"}, {"_ = ", ""}, {"f = g (", ")"}, {"f = [a, ", "]"}, {"instance C D where { f = ", " }"}} {
			wantMarked(t, api.ErrPattern, "module M where { "+c[0]+text+c[1]+" }")
		}
	}
}

// P3.2: clauses with another number of patterns, and patterns in instances.
func TestWrongClauses(t *testing.T) {
	for _, text := range []string{
		"f x = a; §f x y = b", "f x y = a; §f x = b", "f x = a; f y = b; §f x y = c; §f x y = d", "f x = a; §f x y = b; f x = c", "f = z; f x = a; §f x y = b", "x + y = a; §(+) x = b", "x + y = a; §(+) x y z = b", "(+) x = a; §x + y = b", "x `f` y = a; §f x = b", "f x = a; (§f x y) = b", "f x = a; (§x) `f` y = b",
		"f x y = a; §f x + y = b", "x + y = a; §f x + z = b", "f x = a; ; §f x y = b", "f x = a; §f x y | b = c", "f x = §_; f x y = a",
	} {
		for _, c := range [][2]string{{"", ""}, {"g = let { ", " } in h"}, {"g = h where { ", " }"}, {"instance C D where { ", " }"}, {"g = do { let { ", " }; h }"}} {
			wantMarked(t, api.ErrPattern, "module M where { "+c[0]+firstMark(text)+c[1]+" }")
		}
	}
	for _, text := range []string{"§_ = a", "§(x, y) = a", "§C = a", "§C x = a", "(§C x) = a", "§x : y = a", "§x@y = a", "§1 = a", "f = a; §[x] = b; f = c", "§x : f y = a", "§C (f x) = a", "§C {} = a", `§"a" = b`} {
		wantMarked(t, api.ErrPattern, "module M where { instance C D where { "+text+" } }")
	}
}

// wantSmallest holds that the token behind § is told, which is placed ahead of
// all others but those behind ¤: these are further ahead, but not wrong.
func wantSmallest(t *testing.T, marked string) {
	t.Helper()
	var ts []api.Token
	line := 1
	for _, word := range strings.Fields("module M where { " + marked + " }") {
		switch word {
		case "§":
			line = -1
			continue
		case "¤":
			line = -5
			continue
		}
		read, d := lex.Read(word)
		if d != (api.Diag{}) || len(read) != 2 {
			t.Fatalf("%q: %+v", word, d)
		}
		read[0].Line, read[0].Col = line, 1+len(ts)
		ts = append(ts, read[0])
		line = 1
	}
	ts = append(ts, api.Token{Kind: api.EndTok, Line: 1, Col: 1 + len(ts)})
	want := slices.IndexFunc(ts, func(t api.Token) bool { return t.Line == -1 })
	wantWrongTokens(t, ts, api.ErrPattern, -1, 1+want)
}

// P3.2: of all that is wrong, that with the smallest position is told,
// wherever it stands among the tokens.
func TestSmallestPlace(t *testing.T) {
	for _, text := range []string{
		"f = _ ; g = § _ ; h = _", "f = _ ; g = § do { }", "f = § do { _ ; x <- y }", "f = do { § _ ; x <- y }", "f = _ where { g = § _ }", "f = _ + § _", "f = _ ( g § _ ) _",
		"f ( g x ) ( § h y ) = _", "f ( g ( § h x ) ) = a", "f ( 1 ( § h x ) ) = a", "f ( x + ( § g y ) ) = a", "f ( x + y § - z ) = a", "f ( x § + y - z ) = a", "f ( ( § g x ) + y ) = a",
		"f ( C ( g x ) ( § h x ) ) = a", "f ( g x , § h x ) = a", "f [ g x , § h x ] = a", "f x @ ( g ( § h x ) ) = a", "f C { l = g x , m = § h x } = a",
		"a + ( g x ) + ( § h x ) = a", "a + b + c § + d = e", "( § g x ) + b + c = d", "a + b + ( § g x ) = c", "( a + b ) § ( + c ) = d", "1 ( § g x ) = a",
		"f x = _ ; § f x y = b ; f = _", "f x = a ; f x y = b ; § f x y z = c", "f x = a ; f ( g y ) ( § h y ) = b", "f x = a ; f x y = § _",
		"instance C D where { _ = a ; § ( x , y ) = b }", "instance C D where { C ( § f x ) = a }", "instance C D where { ( f x , y ) = § _ }", "instance C D where { § C = _ }",
		`f = \ ( g x ) -> § _`, `f = \ ( g x ) ( § h x ) -> _`, "f = case _ of { g x -> _ ; § h x -> _ }", "f = do { g x <- _ ; § h x <- _ ; _ }", "f = do { g x <- § _ ; _ }",
		"f = let { g ( h x ) = _ } in § _", "f | _ = _ | _ = § _", "f = C { l = _ , m = § _ }", "f = x { l = _ , m = § _ }", "f = ( _ , § _ )", "f = [ _ , § _ ]", "f = if _ then § _ else _",
	} {
		wantSmallest(t, text)
	}
}

// P3.2: nothing is looked at within what is no pattern, nor within an EAs that
// may not be there.
func TestNotLookedAt(t *testing.T) {
	for _, text := range []string{
		"f = § x @ ¤ _", "f = § x @ ( ¤ g x )", "f = § x @ ( ¤ do { } )", "f = § x @ ¤ y @ _", "f = § x @ ( ¤ if _ then b else c )",
		"f ( § if ¤ _ then b else c ) = d", "f ( § let { ¤ _ = ¤ _ } in ¤ _ ) = d", "f ( § let { g ( ¤ h x ) = ¤ do { } } in ¤ _ ) = d", `f ( § \ ( ¤ g x ) -> ¤ _ ) = d`, "f ( § case ¤ _ of { ¤ g x -> ¤ _ } ) = d", "f ( § do { } ) = a", "f ( § do { ¤ _ ; ¤ g x <- ¤ _ } ) = d",
		"f § ( ¤ _ + ) = a", "f § ( ¤ + ¤ _ ) = a", "f ( § x { l = ¤ _ } ) = a", "f ( § x { l = ¤ g x } ) = a", "f ( § C { l = ¤ g y } { m = ¤ _ } ) = a",
		"f ( ( § if ¤ _ then b else c ) d ) = e", "f ( § ( a , ¤ g x ) b ) = c", "f ( § [ ¤ g x ] b ) = c", "f ( § x @ ( ¤ g x ) b ) = c", "f ( § C { l = ¤ g x } b ) = c", "f ( ( § a ¤ + b ) c ) = d", "( § a ¤ + b ) c = d", "§ x @ ( ¤ g x ) b = c",
		"§ if ¤ _ then b else c = d", "§ x { l = ¤ _ } = d", "instance C D where { § if ¤ _ then b else c = d }",
	} {
		wantSmallest(t, text)
	}
}
