package layout_test

import (
	"math/rand"
	"slices"
	"strings"
	"testing"

	"teasel/api"
	"teasel/layout"
	"teasel/lex"
)

func key(text string, line, col int) api.Token {
	return api.Token{Kind: api.KeyTok, Text: text, Line: line, Col: col}
}

func sign(text string, line, col int) api.Token {
	return api.Token{Kind: api.SignTok, Text: text, Line: line, Col: col}
}

func name(text string, line, col int) api.Token {
	return api.Token{Kind: api.VarTok, Text: text, Line: line, Col: col}
}

func end(line, col int) api.Token {
	return api.Token{Kind: api.EndTok, Line: line, Col: col}
}

func inserted(text string, line, col int) api.Token {
	return api.Token{Kind: api.SignTok, Text: text, N: 1, Line: line, Col: col}
}

func isInserted(t api.Token) bool {
	return t.Kind == api.SignTok && t.N == 1
}

// read is the tokens of a text that lex takes.
func read(t *testing.T, text string) []api.Token {
	t.Helper()
	ts, d := lex.Read(text)
	if d != (api.Diag{}) {
		t.Fatalf("%q: lex: %+v", text, d)
	}
	return ts
}

// say is tokens without their places, in the chapter's way.
func say(ts []api.Token) string {
	var words []string
	for _, t := range ts {
		switch {
		case isInserted(t):
			words = append(words, "<"+t.Text+">")
		case t.Kind == api.StrTok:
			words = append(words, `"`+t.Text+`"`)
		case t.Kind != api.EndTok:
			words = append(words, t.Text)
		}
	}
	return strings.Join(words, " ")
}

// wantSaid holds that a text is laid so.
func wantSaid(t *testing.T, text, want string) {
	t.Helper()
	got, d := layout.Lay(read(t, text))
	if d != (api.Diag{}) || say(got) != want {
		t.Errorf("%q: got %s, %+v; want %s", text, say(got), d, want)
	}
	if len(got) == 0 || got[len(got)-1].Kind != api.EndTok {
		t.Errorf("%q: no end token is last", text)
	}
}

// wantError holds that a text has ErrLayout there.
func wantError(t *testing.T, text string, line, col int) {
	t.Helper()
	wantWrong(t, read(t, text), line, col)
}

func wantWrong(t *testing.T, ts []api.Token, line, col int) {
	t.Helper()
	got, d := layout.Lay(ts)
	if want := (api.Diag{Line: line, Col: col, Number: api.ErrLayout}); d != want || len(got) != 0 {
		t.Errorf("%s: got %s, %+v; want %+v", say(ts), say(got), d, want)
	}
}

// wantTokens holds that ts are laid to just these tokens.
func wantTokens(t *testing.T, ts []api.Token, want ...api.Token) {
	t.Helper()
	got, d := layout.Lay(ts)
	if d != (api.Diag{}) || !slices.Equal(got, want) {
		t.Errorf("%s: got %+v, %+v; want %+v", say(ts), got, d, want)
	}
}

// wantSame holds Lay against the second layout rule.
func wantSame(t *testing.T, ts []api.Token) ([]api.Token, api.Diag) {
	t.Helper()
	got, d := layout.Lay(ts)
	want, e := reference(ts)
	if d != e || !slices.Equal(got, want) {
		t.Fatalf("%+v: got %s, %+v; want %s, %+v", ts, say(got), d, say(want), e)
	}
	return got, d
}

// P2.1, P2.2: the chapter's examples, the last one as the promise's steps lay
// it: the second where stands at column 3, and so leaves the block at 7.
func TestExamples(t *testing.T) {
	wantSaid(t, "module M where\nf x = y\n  where y = x\ng = f",
		"module M where <{> f x = y where <{> y = x <}> <;> g = f <}>")
	wantSaid(t, "where x = let a = b in (case a of c -> d, e)",
		"where <{> x = let <{> a = b <}> in ( case a of <{> c -> d <}> , e ) <}>")
	wantSaid(t, "where\nm = do p\n       let q = r\n       if s\n        then t\n       else u",
		"where <{> m = do <{> p <;> let <{> q = r <}> <;> if s then t else u <}> <}>")
	wantError(t, "where x = (do y\nz)", 2, 1)
	wantSaid(t, "where", "where <{> <}>")
	wantSaid(t, "where { a\nb }", "where { a b }")
	wantSaid(t, "where f = g\n  where\nh = f", "where <{> f = g <}> where <{> h = f <}>")
}

// P2.1: what is inserted has its Kind, its N and the place of the token it is
// inserted at; what is emitted is unchanged.
func TestPlacesOfInserted(t *testing.T) {
	wantTokens(t, read(t, "do a\n   b (do\n   )\n"),
		key("do", 1, 1), inserted("{", 1, 4), name("a", 1, 4), inserted(";", 2, 4), name("b", 2, 4), sign("(", 2, 6),
		key("do", 2, 7), inserted("{", 3, 4), inserted("}", 3, 4), sign(")", 3, 4), inserted("}", 4, 1), end(4, 1))
	odd := api.Token{Kind: api.IntTok, Text: "do", N: 1, Line: 1, Col: 9}
	last := api.Token{Kind: api.EndTok, Text: "x", N: 7, Line: 1, Col: 20}
	wantTokens(t, []api.Token{key("do", 1, 1), odd, last}, key("do", 1, 1), inserted("{", 1, 9), odd, inserted("}", 1, 20), last)
}

// P2.1: each opener, ahead of a token, of {, and of nothing.
func TestOpeners(t *testing.T) {
	for _, o := range []string{"where", "let", "do", "of"} {
		wantSaid(t, o+" a", o+" <{> a <}>")
		wantSaid(t, o+"\na", o+" <{> a <}>")
		wantSaid(t, o+" a\nb", o+" <{> a <}> b")
		wantSaid(t, o+" { a\nb }", o+" { a b }")
		wantSaid(t, o+"\n{ a\nb }\nc", o+" { a b } c")
		wantSaid(t, o, o+" <{> <}>")
		wantSaid(t, "do a "+o, "do <{> a "+o+" <{> <}> <}>")
		wantSaid(t, "do a\n   "+o+"\n", "do <{> a "+semicolonUnlessCloser(o)+o+" <{> <}> <}>")
		last := key(o, 3, 4)
		wantTokens(t, []api.Token{last}, last, inserted("{", 3, 4), inserted("}", 3, 4), end(3, 4))
		wantTokens(t, []api.Token{last, end(3, 9)}, last, inserted("{", 3, 9), inserted("}", 3, 9), end(3, 9))
	}
	for _, w := range []string{"case", "class", "data", "else", "if", "import", "in", "infix", "infixl", "infixr", "instance", "module", "then"} {
		wantSaid(t, w+" a\n"+"b", w+" a b")
		wantSaid(t, w, w)
	}
	wantSaid(t, "do do do a", "do <{> do <{> do <{> a <}> <}> <}>")
	wantSaid(t, "do\ndo\n do a", "do <{> do <{> do <{> a <}> <}> <}>")
}

func semicolonUnlessCloser(opener string) string {
	if opener == "of" {
		return ""
	}
	return "<;> "
}

// P2.1: a token behind an opener starts a block only to the right of the
// current one; otherwise the block is empty, and the token is laid as others.
func TestColumnsBehindOpeners(t *testing.T) {
	wantSaid(t, "  where\n  f = do\n   a", "where <{> f = do <{> a <}> <}>")
	wantSaid(t, "  where\n  f = do\n  a", "where <{> f = do <{> <}> <;> a <}>")
	wantSaid(t, "  where\n  f = do\n a", "where <{> f = do <{> <}> <}> a")
	wantSaid(t, "do\n  a where\n  { b }\n  c", "do <{> a where { b } <;> c <}>")
	wantSaid(t, "do a (do\n   )", "do <{> a ( do <{> <}> ) <}>")
	wantError(t, "do a (do\n   b)", 2, 4)
	wantSaid(t, "do { do\na }", "do { do <{> a <}> }")
	wantError(t, "   do a {do\n b}", 2, 2)
	wantTokens(t, []api.Token{key("do", 1, 1), name("a", 1, 0), end(1, 2)},
		key("do", 1, 1), inserted("{", 1, 0), inserted("}", 1, 0), name("a", 1, 0), end(1, 2))
	wantTokens(t, []api.Token{key("do", 1, 1), name("a", 1, 5), key("do", 1, 6), name("b", 1, 5), end(1, 9)},
		key("do", 1, 1), inserted("{", 1, 5), name("a", 1, 5), key("do", 1, 6), inserted("{", 1, 5), inserted("}", 1, 5),
		name("b", 1, 5), inserted("}", 1, 9), end(1, 9))
}

// P2.1: the first token of a line against the current block's column.
func TestLines(t *testing.T) {
	wantSaid(t, "do a\n    b", "do <{> a b <}>")
	wantSaid(t, "do a\n   b", "do <{> a <;> b <}>")
	wantSaid(t, "do a\n  b", "do <{> a <}> b")
	wantSaid(t, "do a\n   b\n    c\n   d\n\n\n   e", "do <{> a <;> b c <;> d <;> e <}>")
	wantSaid(t, "a b\nc", "a b c")
	wantSaid(t, "do a\n b\n  c", "do <{> a <}> b c")
	wantSaid(t, "do\n a ; b\n c", "do <{> a ; b <;> c <}>")
	for _, o := range []string{"(", "[", "{", "if", "case", "let", "do", "where", "x", "=", "`", "|", ";"} {
		laid := "do <{> a <;> " + o
		if among(o, openerWords) {
			laid += " <{> <}>"
		}
		if among(o, " ( [ { if case ") {
			wantError(t, "do a\n   "+o, 2, 4+len(o))
			continue
		}
		wantSaid(t, "do a\n   "+o, laid+" <}>")
	}
}

// P2.1: a closer at the block's column goes on with the line above it; one
// to the left of it leaves the block.
func TestClosersAtTheColumn(t *testing.T) {
	for _, c := range strings.Fields(closerTexts) {
		empty := ""
		if c == "of" {
			empty = " <{> <}>"
		}
		wantSaid(t, "do a\n   "+c, "do <{> a "+c+empty+" <}>")
		wantSaid(t, "do a\n    "+c, "do <{> a "+c+empty+" <}>")
		wantSaid(t, "do a\n  "+c, "do <{> a <}> "+c+empty)
	}
	wantSaid(t, "do f (a\n   , b\n   )\n   c", "do <{> f ( a , b ) <;> c <}>")
	wantSaid(t, "do if a\n   then b\n   else c", "do <{> if a then b else c <}>")
	wantError(t, "do if a\n   b", 2, 4)
	wantError(t, "do f (a\n  , b)", 2, 3)
}

// entryText is a text that leaves an entry on the stack, and how it is laid.
// It leaves no block below that entry, so that nothing is wrong at the end.
type entryText struct {
	entry, text, laid string
}

func entryTexts() []entryText {
	return []entryText{
		{"(", "(", "("},
		{"[", "[", "["},
		{"{", "{", "{"},
		{"if", "if", "if"},
		{"then", "if a then", "if a then"},
		{"case", "case", "case"},
		{"let", "let { a }", "let { a }"},
		{"braces", "do { b", "do { b"},
		{"none", "b", "b"},
	}
}

// P2.1: each closer with each entry: the blocks above an entry that it
// matches are closed ahead of it, and those above any other are not.
func TestClosersAndEntries(t *testing.T) {
	for _, x := range entryTexts() {
		for _, c := range strings.Fields(closerTexts) {
			text := x.text + " do c where d " + c + " e"
			before, after := " ", " <}> <}>"
			if matchingPair(c, x.entry) {
				before, after = " <}> <}> ", ""
			}
			behind := " e"
			if c == "of" {
				behind = " <{> e <}>"
			}
			wantSaid(t, text, x.laid+" do <{> c where <{> d"+before+c+behind+after)
		}
	}
}

// P2.1: what a closer does to the entry that it matches: it is popped, but
// stays for a comma, and is then a mark of another kind for then.
func TestWhatClosersLeave(t *testing.T) {
	wantSaid(t, "(do a, do b, do c)", "( do <{> a <}> , do <{> b <}> , do <{> c <}> )")
	wantSaid(t, "[do a, do b]", "[ do <{> a <}> , do <{> b <}> ]")
	wantSaid(t, "{do a, do b}", "{ do <{> a <}> , do <{> b <}> }")
	wantSaid(t, "if do a then do b else do c then d", "if do <{> a <}> then do <{> b <}> else do <{> c then d <}>")
	wantSaid(t, "if do a else b then c else d", "if do <{> a else b <}> then c else d")
	wantSaid(t, "if a then do b then c else d", "if a then do <{> b then c <}> else d")
	wantSaid(t, "if a then b else do c else d", "if a then b else do <{> c else d <}>")
	wantSaid(t, "(a) do b )", "( a ) do <{> b ) <}>")
	wantSaid(t, "[a] do b ]", "[ a ] do <{> b ] <}>")
	wantSaid(t, "{a} do b }", "{ a } do <{> b } <}>")
	wantSaid(t, "do {a} do b }", "do { a } do <{> b } <}>")
	wantSaid(t, "do {a, do b}", "do { a , do <{> b <}> }")
	wantSaid(t, "do {do a, b}", "do { do <{> a , b <}> }")
	wantSaid(t, "case do a of b", "case do <{> a <}> of <{> b <}>")
	wantSaid(t, "case a of {b} do c of d", "case a of { b } do <{> c of <{> d <}> <}>")
	wantSaid(t, "let a in let b in c in d", "let <{> a <}> in let <{> b <}> in c in d")
}

// P2.1: let's marks are loose: lines and closers end them, but in does not
// look beyond one, nor beyond any other mark.
func TestLets(t *testing.T) {
	wantSaid(t, "let in", "let <{> <}> in")
	wantSaid(t, "let a = do b in c", "let <{> a = do <{> b <}> <}> in c")
	wantSaid(t, "do let a\n   b in c", "do <{> let <{> a <}> <;> b in c <}>")
	wantSaid(t, "let a = do let b\n           c in d", "let <{> a = do <{> let <{> b <}> <;> c <}> <}> in d")
	wantSaid(t, "do let a\n   let b\n  c", "do <{> let <{> a <}> <;> let <{> b <}> <}> c")
	wantSaid(t, "(do let a) b", "( do <{> let <{> a <}> <}> ) b")
	wantSaid(t, "(let a let b, c)", "( let <{> a let <{> b <}> <}> , c )")
	wantSaid(t, "let a = let b in c in d", "let <{> a = let <{> b <}> in c <}> in d")
	wantError(t, "let a = (b in c\n", 2, 1)
	wantSaid(t, "let (a in b) in c", "let <{> ( a in b ) <}> in c")
	wantSaid(t, "let if a in then b else c in d", "let <{> if a in then b else c <}> in d")
	wantSaid(t, "let { a in b } in c", "let { a in b } in c")
	wantSaid(t, "do let { a }\n   in b", "do <{> let { a } in b <}>")
	wantSaid(t, "let a\n    b\nin c", "let <{> a <;> b <}> in c")
	wantSaid(t, "do let a\n   in b\n   c", "do <{> let <{> a <}> in b <;> c <}>")
}

// P2.1: several blocks that one token leaves; each is left at its place.
func TestSeveralBlocksLeft(t *testing.T) {
	wantSaid(t, "do a do b do c\nd", "do <{> a do <{> b do <{> c <}> <}> <}> d")
	wantSaid(t, "do a\n   do b\n      do c\n   d", "do <{> a <;> do <{> b <;> do <{> c <}> <}> <;> d <}>")
	wantSaid(t, "do a\n   do b\n      do c\n    d", "do <{> a <;> do <{> b <;> do <{> c <}> <}> d <}>")
	wantSaid(t, "do a do b do c\n", "do <{> a do <{> b do <{> c <}> <}> <}>")
	wantTokens(t, read(t, "do do a\n  b"), key("do", 1, 1), inserted("{", 1, 4), key("do", 1, 4), inserted("{", 1, 7),
		name("a", 1, 7), inserted("}", 2, 3), inserted("}", 2, 3), name("b", 2, 3), end(2, 4))
	wantSaid(t, "do let do let a\nb", "do <{> let <{> do <{> let <{> a <}> <}> <}> <}> b")
	wantError(t, "do (a do b do c\n d", 2, 2)
}

// P2.1: within braces there is no current block, and none outside of them is
// left, not even at the end.
func TestBraces(t *testing.T) {
	wantSaid(t, "do a\n   do {\nb\n c\n  do d\ne }\n   f", "do <{> a <;> do { b c do <{> d <}> e } <;> f <}>")
	wantSaid(t, "do a do { b\n", "do <{> a do { b")
	wantSaid(t, "do a do { do b\n", "do <{> a do { do <{> b <}>")
	wantSaid(t, "do a do { do\n", "do <{> a do { do <{> <}>")
	wantSaid(t, "do a do { do b\n c }\nd", "do <{> a do { do <{> b <}> c } <}> d")
	wantSaid(t, "do a {\n    b }", "do <{> a { b } <}>")
	wantError(t, "do a {\n   b }", 2, 4)
	wantSaid(t, "do { a { b } c }", "do { a { b } c }")
	wantError(t, "do { do ( b\nc", 2, 1)
}

// P2.2: each mark that is not loose keeps a block from being left, and its
// line from being ended; the error is at the token that would do so.
func TestErrors(t *testing.T) {
	for _, m := range []string{"(", "[", "{", "if", "if b then", "case"} {
		wantError(t, "do a "+m+" b\nc", 2, 1)
		wantError(t, "do a "+m+" b\n\n  c", 3, 3)
		wantError(t, "do a "+m+" b\n   c", 2, 4)
		wantError(t, "do a "+m+" b", 1, 8+len(m))
		wantError(t, "do a "+m+" b\n\n ", 3, 2)
		wantError(t, "do a "+m+" let { b }\n   c", 2, 4)
		wantError(t, "do a let { b } "+m+"\n   c", 2, 4)
		wantError(t, "do a "+m+" do b\n  c", 2, 3)
		wantError(t, "do a "+m+" do b\nc", 2, 1)
		wantError(t, "do a "+m+" b\n )", 2, 2)
		wantSaid(t, m+" b\nc", m+" b c")
		wantWrong(t, read(t, "do a "+m)[:2+len(strings.Fields(m))], 1, strings.LastIndex("do a "+m, " ")+2)
	}
	wantError(t, "where\n x = [y,\n z]", 3, 2)
	wantError(t, "do a\n   if b\n c", 3, 2)
	wantError(t, "do (\ndo [\n", 2, 1)
	wantError(t, "do a ( do b )\n do [", 2, 6)
}

// P2.1: words and signs are so by their Kind, not by their Text alone.
func TestKinds(t *testing.T) {
	for _, kind := range []int{0, api.VarTok, api.ConTok, api.OpTok, api.ConOpTok, api.IntTok, api.StrTok, api.SignTok, -1, 99} {
		for _, text := range []string{"where", "let", "do", "of", "in", "then", "else", "if", "case"} {
			ts := []api.Token{key("do", 1, 1), name("a", 1, 4), {Kind: kind, Text: text, Line: 2, Col: 4}, name("b", 2, 9)}
			wantTokens(t, ts, ts[0], inserted("{", 1, 4), ts[1], inserted(";", 2, 4), ts[2], ts[3], inserted("}", 2, 9), end(2, 9))
		}
	}
	for _, kind := range []int{0, api.VarTok, api.ConTok, api.OpTok, api.ConOpTok, api.IntTok, api.StrTok, api.KeyTok, -1, 99} {
		for _, text := range []string{"(", ")", "[", "]", "{", "}", ","} {
			odd := api.Token{Kind: kind, Text: text, Line: 1, Col: 4}
			wantTokens(t, []api.Token{key("do", 1, 1), odd}, key("do", 1, 1), inserted("{", 1, 4), odd, inserted("}", 1, 4), end(1, 4))
			ts := []api.Token{sign("(", 1, 1), sign("[", 1, 2), sign("{", 1, 3), key("do", 1, 5), name("a", 1, 8), {Kind: kind, Text: text, Line: 1, Col: 10}}
			wantTokens(t, ts, ts[0], ts[1], ts[2], ts[3], inserted("{", 1, 8), ts[4], ts[5], inserted("}", 1, 10), end(1, 10))
		}
	}
	wantSaid(t, `do "{" "do" "(" a`, `do <{> "{" "do" "(" a <}>`)
	laid := inserted("{", 1, 4)
	wantTokens(t, []api.Token{key("do", 1, 1), laid, end(1, 5)}, key("do", 1, 1), laid, end(1, 5))
}

// P2.1: the end token, where it is given and where it is not; nothing behind
// the first one is looked at.
func TestEnds(t *testing.T) {
	wantTokens(t, nil, end(1, 1))
	wantTokens(t, []api.Token{}, end(1, 1))
	wantTokens(t, []api.Token{end(4, 7)}, end(4, 7))
	wantTokens(t, []api.Token{end(4, 7), name("a", 5, 1), end(6, 1)}, end(4, 7))
	wantTokens(t, []api.Token{name("a", 2, 3)}, name("a", 2, 3), end(2, 3))
	wantTokens(t, []api.Token{name("a", 2, 3), end(9, 9), key("do", 10, 1), end(10, 4)}, name("a", 2, 3), end(9, 9))
	wantTokens(t, []api.Token{key("do", 1, 1), name("a", 2, 3)}, key("do", 1, 1), inserted("{", 2, 3), name("a", 2, 3), inserted("}", 2, 3), end(2, 3))
	wantTokens(t, []api.Token{key("do", 1, 1), name("a", 1, 4), end(1, 50)},
		key("do", 1, 1), inserted("{", 1, 4), name("a", 1, 4), inserted("}", 1, 50), end(1, 50))
	wantTokens(t, []api.Token{key("do", 1, 1), name("a", 1, 4), end(0, -5)},
		key("do", 1, 1), inserted("{", 1, 4), name("a", 1, 4), inserted("}", 0, -5), end(0, -5))
}

// P2.1: a token is first on its line only if its Line is greater than that of
// the token ahead of it; the first token is, whatever its Line.
func TestFirstOnLine(t *testing.T) {
	back := []api.Token{key("do", 5, 1), name("a", 5, 4), name("b", 4, 4), name("c", 4, 1), end(9, 1)}
	wantTokens(t, back, back[0], inserted("{", 5, 4), back[1], back[2], back[3], inserted("}", 9, 1), end(9, 1))
	forth := []api.Token{key("do", -7, 1), name("a", -7, 4), name("b", -6, 4), end(-6, 9)}
	wantTokens(t, forth, forth[0], inserted("{", -7, 4), forth[1], inserted(";", -6, 4), forth[2], inserted("}", -6, 9), end(-6, 9))
	wantTokens(t, []api.Token{name("a", -3, -3)}, name("a", -3, -3), end(-3, -3))
}

var sampleWords = strings.Fields("do let in ( ) { } , x if then else case of [ ] where ; =")

// sample is a token of such a Text.
func sample(text string, line, col int) api.Token {
	switch {
	case text == "x":
		return name(text, line, col)
	case text[0] >= 'a' && text[0] <= 'z':
		return key(text, line, col)
	}
	return sign(text, line, col)
}

// P2.1, P2.2, P2.3: all short lists of tokens, behind some beginnings, on one
// line or on the next one at columns about the blocks'.
func TestShortLists(t *testing.T) {
	beginnings := [][]api.Token{
		nil,
		{key("do", 1, 1), name("a", 1, 2)},
		{key("let", 1, 1), name("a", 1, 2), key("do", 1, 3), name("b", 1, 4)},
		{key("do", 1, 1), name("a", 1, 2), sign("(", 1, 3), key("do", 1, 4), name("b", 1, 5)},
	}
	for _, beginning := range beginnings {
		var all func(ts []api.Token, line, col, left int)
		all = func(ts []api.Token, line, col, left int) {
			wantHeld(t, ts)
			if left == 0 {
				return
			}
			for _, w := range sampleWords[:14] {
				all(append(ts[:len(ts):len(ts)], sample(w, line, col)), line, col+2, left-1)
				for _, c := range []int{2, 4} {
					all(append(ts[:len(ts):len(ts)], sample(w, line+1, c)), line+1, c+2, left-1)
				}
			}
		}
		all(beginning, 1, 7, 3)
	}
}

// P2.1, P2.2, P2.3: longer lists of tokens.
func TestLongerLists(t *testing.T) {
	r := rand.New(rand.NewSource(2))
	laid := 0
	for range 60000 {
		var ts []api.Token
		line, col := 1, 1
		for range r.Intn(30) {
			if r.Intn(4) == 0 {
				line, col = line+1, 1+r.Intn(12)
			}
			w := sampleWords[r.Intn(len(sampleWords))]
			ts = append(ts, sample(w, line, col))
			col += len(w) + r.Intn(2)
		}
		if r.Intn(4) > 0 {
			ts = append(ts, end(line+r.Intn(2), 1+r.Intn(3)))
		}
		if wantHeld(t, ts) {
			laid++
		}
	}
	if laid < 10000 {
		t.Errorf("only %d of the lists could be laid", laid)
	}
}

// P2.1, R1: any tokens whatever.
func TestAnyLists(t *testing.T) {
	r := rand.New(rand.NewSource(3))
	texts := append([]string{"", "?"}, sampleWords...)
	kinds := []int{api.KeyTok, api.SignTok, api.KeyTok, api.SignTok, api.VarTok, api.StrTok, 0, -1, api.EndTok + 1}
	for range 60000 {
		var ts []api.Token
		for range r.Intn(20) {
			k := sample(texts[1+r.Intn(len(texts)-1)], r.Intn(12)-2, r.Intn(9)-2)
			if r.Intn(5) == 0 {
				k.Kind, k.Text = kinds[r.Intn(len(kinds))], texts[r.Intn(len(texts))]
			}
			if r.Intn(40) == 0 {
				k.Kind = api.EndTok
			}
			k.N = r.Intn(3) - 1
			ts = append(ts, k)
		}
		wantSame(t, ts)
	}
	most, least := 1<<63-1, -1<<63
	wantSame(t, []api.Token{key("do", least, most), name("a", most, most), key("do", most, least), name("a", most, most), end(least, least)})
	wantSame(t, []api.Token{key("do", least, least), name("a", most, 1), key("do", most, most), name("b", most, most), end(most, most)})
}

// wantHeld holds Lay against the second layout rule and, if ts can be laid,
// its answer against P2.3. (No input token has N 1.)
func wantHeld(t *testing.T, ts []api.Token) bool {
	t.Helper()
	got, d := wantSame(t, ts)
	wantShifted(t, ts, 5, got, d)
	if d != (api.Diag{}) {
		return false
	}
	wantInputs(t, ts, got)
	wantBalance(t, ts, got)
	again, e := layout.Lay(got)
	if e != (api.Diag{}) || !slices.Equal(again, got) {
		t.Fatalf("%+v: laid to %s, and that to %s, %+v", ts, say(got), say(again), e)
	}
	return true
}

// P2.3: all columns greater by some number.
func wantShifted(t *testing.T, ts []api.Token, by int, laid []api.Token, d api.Diag) {
	t.Helper()
	if len(ts) == 0 { // the place of the end is then the chapter's
		return
	}
	moved := moveAll(ts, by)
	got, e := layout.Lay(moved)
	if d.Number != api.OK {
		d.Col += by
	}
	if want := moveAll(laid, by); d != e || !slices.Equal(got, want) {
		t.Fatalf("%+v: got %s, %+v; want %s, %+v", moved, say(got), e, say(want), d)
	}
}

func moveAll(ts []api.Token, by int) []api.Token {
	moved := slices.Clone(ts)
	for i := range moved {
		moved[i].Col += by
	}
	return moved
}

// P2.3: without what is inserted, the tokens are those that were given.
func wantInputs(t *testing.T, ts, laid []api.Token) {
	t.Helper()
	rest := slices.DeleteFunc(slices.Clone(laid), isInserted)
	want := slices.Clone(ts)
	switch {
	case len(ts) == 0:
		want = []api.Token{end(1, 1)}
	case ts[len(ts)-1].Kind != api.EndTok:
		want = append(want, end(ts[len(ts)-1].Line, ts[len(ts)-1].Col))
	}
	if !slices.Equal(rest, want) {
		t.Fatalf("%+v: laid to %s", ts, say(laid))
	}
}

// P2.3: how many braces are inserted.
func wantBalance(t *testing.T, ts, laid []api.Token) {
	t.Helper()
	open := 0
	for _, k := range laid {
		if isInserted(k) && k.Text == "{" {
			open++
		}
		if isInserted(k) && k.Text == "}" {
			open--
		}
		if open < 0 {
			t.Fatalf("%+v: laid to %s", ts, say(laid))
		}
	}
	explicit := false
	for i := 1; i < len(ts); i++ {
		explicit = explicit || among(nameOf(ts[i-1]), openerWords) && nameOf(ts[i]) == "{"
	}
	if open != 0 && !explicit {
		t.Fatalf("%+v: laid to %s", ts, say(laid))
	}
}

// P2.1, P2.3: the Prelude, and a text with all that a file may hold.
func TestFiles(t *testing.T) {
	for _, text := range []string{api.Prelude, "module M (f) where\nimport N\n\ndata T = A { b :: Int, c :: Int }\n" +
		"class C a where\n  m :: a\ninstance C T where\n  m = A { b = 1\n        , c = 2\n        }\n" +
		"f x\n  | x = do\n      y <- g x\n      let z = y\n          w = z\n      if z then h w\n           else do h z\n                   k\n" +
		"  | y = case x of\n      A b c -> b\n      _ -> let q = x in q\n  where\n    y = x\n"} {
		if !wantHeld(t, read(t, text)) {
			t.Errorf("%.60q cannot be laid", text)
		}
	}
}

// R1, R4: long lists of tokens, of all sorts of entries, within a moment.
func TestLongLists(t *testing.T) {
	const many = 100000
	for _, pieces := range [][2]string{{"let", "in"}, {"(", "]"}, {"do", ")"}, {"let", ")"}, {"(", "in"}, {"do", "x"}, {"let", "("}, {"if", "x"}} {
		ts := []api.Token{key("do", 1, 1), name("x", 1, 2)}
		for i := range many {
			ts = append(ts, sample(pieces[0], 2+i, 3+i))
		}
		for i := range many {
			ts = append(ts, sample(pieces[1], 2+many+i, 4+many))
		}
		laid, d := layout.Lay(ts)
		if d.Number != api.ErrLayout && len(laid) <= len(ts) {
			t.Errorf("%v: %d tokens, %+v", pieces, len(laid), d)
		}
	}
}

// R2, R3: what is given is not written to, not even beyond its length, and no
// two answers share memory.
func TestMemory(t *testing.T) {
	given := read(t, "do a\n   let b\n   (do c)\n")
	short := given[:4]
	before := slices.Clone(given)
	first, _ := layout.Lay(short)
	if !slices.Equal(given, before) {
		t.Error("what was given has changed")
	}
	kept := slices.Clone(first)
	second, _ := layout.Lay(short)
	clear(second)
	_ = append(second[:1], api.Token{Kind: 77})
	clear(given)
	if !slices.Equal(first, kept) {
		t.Error("an answer has changed")
	}
}
