package lex_test

import (
	"fmt"
	"math/rand"
	"slices"
	"strconv"
	"strings"
	"testing"

	"teasel/api"
	"teasel/lex"
)

func tok(kind int, text string, line, col int) api.Token {
	return api.Token{Kind: kind, Text: text, Line: line, Col: col}
}

func num(text string, n, line, col int) api.Token {
	return api.Token{Kind: api.IntTok, Text: text, N: n, Line: line, Col: col}
}

func end(line, col int) api.Token {
	return api.Token{Kind: api.EndTok, Line: line, Col: col}
}

// wantTokens holds that text has just these tokens.
func wantTokens(t *testing.T, text string, want ...api.Token) {
	t.Helper()
	got, d := lex.Read(text)
	if d != (api.Diag{}) || !slices.Equal(got, want) {
		t.Errorf("%.60q: got %#v, %+v; want %#v", text, got, d, want)
	}
}

// wantError holds that text has just this error.
func wantError(t *testing.T, text string, number api.Errno, line, col int) {
	t.Helper()
	got, d := lex.Read(text)
	if want := (api.Diag{Line: line, Col: col, Number: number}); d != want || len(got) != 0 {
		t.Errorf("%.60q: got %#v, %+v; want %#v", text, got, d, want)
	}
}

// wantSame holds Read against the second lexer.
func wantSame(t *testing.T, text string) {
	t.Helper()
	got, d := lex.Read(text)
	want, e := reference(text)
	if d != e || !slices.Equal(got, want) {
		t.Fatalf("%q: got %#v, %+v; want %#v, %+v", text, got, d, want, e)
	}
}

// P1.1, P1.2: the chapter's examples.
func TestExamples(t *testing.T) {
	wantError(t, "f' x=x+0'", api.ErrByte, 1, 9)
	wantTokens(t, "f' x=x+0", tok(api.VarTok, "f'", 1, 1), tok(api.VarTok, "x", 1, 4), tok(api.SignTok, "=", 1, 5),
		tok(api.VarTok, "x", 1, 6), tok(api.OpTok, "+", 1, 7), num("0", 0, 1, 8), end(1, 9))
	wantTokens(t, "_ _a A'b", tok(api.SignTok, "_", 1, 1), tok(api.VarTok, "_a", 1, 3), tok(api.ConTok, "A'b", 1, 6), end(1, 9))
	wantTokens(t, "a--b\n-->c", tok(api.VarTok, "a", 1, 1), tok(api.OpTok, "-->", 2, 1), tok(api.VarTok, "c", 2, 4), end(2, 5))
	wantError(t, "{-{-}-}x", api.ErrComment, 1, 1)
	wantTokens(t, "{--}", end(1, 5))
	wantError(t, "{-\nx", api.ErrComment, 1, 1)
	wantTokens(t, ":+ : :: =: =>", tok(api.ConOpTok, ":+", 1, 1), tok(api.ConOpTok, ":", 1, 4), tok(api.SignTok, "::", 1, 6),
		tok(api.OpTok, "=:", 1, 9), tok(api.SignTok, "=>", 1, 12), end(1, 14))
	wantTokens(t, `"a\n\065"`, tok(api.StrTok, "a\nA", 1, 1), end(1, 10))
	wantError(t, `"a`, api.ErrText, 1, 1)
	wantError(t, `"\256"`, api.ErrText, 1, 1)
	wantTokens(t, "007", num("007", 7, 1, 1), end(1, 4))
	wantError(t, "007 9223372036854775808", api.ErrInt, 1, 5)
}

// P1.1: the end's place is that after the last byte.
func TestEnd(t *testing.T) {
	wantTokens(t, "", end(1, 1))
	wantTokens(t, "  ", end(1, 3))
	wantTokens(t, "\n", end(2, 1))
	wantTokens(t, "\n\n  ", end(3, 3))
	wantTokens(t, "x", tok(api.VarTok, "x", 1, 1), end(1, 2))
	wantTokens(t, "x\n", tok(api.VarTok, "x", 1, 1), end(2, 1))
	wantTokens(t, "-- x\n", end(2, 1))
	wantTokens(t, "-- x", end(1, 5))
	wantTokens(t, "{-\n\n -}", end(3, 4))
}

// P1.1: words, and which of them are reserved.
func TestWords(t *testing.T) {
	for _, w := range reservedWords {
		wantTokens(t, w, tok(api.KeyTok, w, 1, 1), end(1, 1+len(w)))
		for _, more := range []string{"x", "'", "_", "0", "X"} {
			wantTokens(t, w+more, tok(api.VarTok, w+more, 1, 1), end(1, 2+len(w)))
		}
		wantTokens(t, "_"+w, tok(api.VarTok, "_"+w, 1, 1), end(1, 2+len(w)))
		upper := strings.ToUpper(w)
		wantTokens(t, upper, tok(api.ConTok, upper, 1, 1), end(1, 1+len(w)))
	}
	for _, w := range []string{"a", "z", "__", "_'", "_0", "_A", "a'", "aB_9'z", "as", "type", "deriving", "cas", "infixlr"} {
		wantTokens(t, w, tok(api.VarTok, w, 1, 1), end(1, 1+len(w)))
	}
	for _, w := range []string{"A", "Z", "A'", "Z_0a", "Case"} {
		wantTokens(t, w, tok(api.ConTok, w, 1, 1), end(1, 1+len(w)))
	}
	wantTokens(t, "1a2 A.b", num("1", 1, 1, 1), tok(api.VarTok, "a2", 1, 2), tok(api.ConTok, "A", 1, 5),
		tok(api.OpTok, ".", 1, 6), tok(api.VarTok, "b", 1, 7), end(1, 8))
}

// P1.1: sequences of symbol characters, and which of them are reserved.
func TestOperators(t *testing.T) {
	for _, o := range reservedOperators {
		wantTokens(t, o, tok(api.SignTok, o, 1, 1), end(1, 1+len(o)))
		kind := api.OpTok
		if o[0] == ':' {
			kind = api.ConOpTok
		}
		wantTokens(t, o+"+", tok(kind, o+"+", 1, 1), end(1, 2+len(o)))
		wantTokens(t, "+"+o, tok(api.OpTok, "+"+o, 1, 1), end(1, 2+len(o)))
	}
	all := "!#$%&*+./<=>?@\\^|-:"
	wantTokens(t, all, tok(api.OpTok, all, 1, 1), end(1, 1+len(all)))
	wantTokens(t, ":"+all, tok(api.ConOpTok, ":"+all, 1, 1), end(1, 2+len(all)))
	for _, o := range []string{"-", "==", "||", "\\\\", "<--", "-->", "--|", "|--", "<->", ".", "@@", "=:", "+--"} {
		wantTokens(t, o, tok(api.OpTok, o, 1, 1), end(1, 1+len(o)))
	}
	for _, o := range []string{":", ":::", ":=", ":--", ":-"} {
		wantTokens(t, o, tok(api.ConOpTok, o, 1, 1), end(1, 1+len(o)))
	}
	wantTokens(t, `\x->`, tok(api.SignTok, `\`, 1, 1), tok(api.VarTok, "x", 1, 2), tok(api.SignTok, "->", 1, 3), end(1, 5))
}

// P1.1: brackets, commas, semicolons and backquotes are a token each.
func TestBrackets(t *testing.T) {
	text := "(),;[]{}`((``{{"
	want := []api.Token{}
	for i := range len(text) {
		want = append(want, tok(api.SignTok, text[i:i+1], 1, 1+i))
	}
	wantTokens(t, text, append(want, end(1, 1+len(text)))...)
	wantTokens(t, "(-{ -}", tok(api.SignTok, "(", 1, 1), tok(api.OpTok, "-", 1, 2), tok(api.SignTok, "{", 1, 3),
		tok(api.OpTok, "-", 1, 5), tok(api.SignTok, "}", 1, 6), end(1, 7))
}

// P1.1, P1.2: each byte as a text of its own, and behind a token on a second line.
func TestEveryByte(t *testing.T) {
	starts := " \n_(),;[]{}`!#$%&*+./<=>?@\\^|-:"
	for b := range 256 {
		text := string([]byte{byte(b)})
		c := byte(b)
		starter := c >= 'a' && c <= 'z' || c >= 'A' && c <= 'Z' || c >= '0' && c <= '9' || strings.Contains(starts, text)
		switch _, d := lex.Read(text); {
		case starter:
			if d != (api.Diag{}) {
				t.Errorf("%q: %+v", text, d)
			}
		case c == '"':
			wantError(t, text, api.ErrText, 1, 1)
			wantError(t, "ab\n (x "+text, api.ErrText, 2, 5)
		default:
			wantError(t, text, api.ErrByte, 1, 1)
			wantError(t, "ab\n (x "+text, api.ErrByte, 2, 5)
		}
	}
}

// P1.1: line comments go up to the end of their line, whatever they hold.
func TestLineComments(t *testing.T) {
	x := tok(api.VarTok, "x", 2, 1)
	for _, c := range []string{"--", "---", "-- a", "--a", "--\"", "--{-", "--\t\x00\xff", "--(>", "-- -->", "--~", "--'", "-------------------"} {
		wantTokens(t, c, end(1, 1+len(c)))
		wantTokens(t, c+"\nx", x, end(2, 2))
		wantTokens(t, "a"+c+"\nx", tok(api.VarTok, "a", 1, 1), x, end(2, 2))
	}
	wantTokens(t, "-\nx", tok(api.OpTok, "-", 1, 1), x, end(2, 2))
	wantTokens(t, "- -\nx", tok(api.OpTok, "-", 1, 1), tok(api.OpTok, "-", 1, 3), x, end(2, 2))
	wantTokens(t, "--+ a\nx", tok(api.OpTok, "--+", 1, 1), tok(api.VarTok, "a", 1, 5), x, end(2, 2))
	wantTokens(t, `"--"`, tok(api.StrTok, "--", 1, 1), end(1, 5))
}

// P1.1: block comments nest, and start whatever follows them.
func TestBlockComments(t *testing.T) {
	for _, c := range []string{"{--}", "{- -}", "{---}", "{-a-}", "{-{--}-}", "{-{-{-x-}y-}z-}", "{-{--}{--}-}",
		"{-\"-}", "{-\t\x00\xff~'-}", "{-}-}", "{-{ -}", "{- -- -}", "{-+-}", "{-9223372036854775808-}"} {
		wantTokens(t, c, end(1, 1+len(c)))
		wantTokens(t, "a"+c+"b", tok(api.VarTok, "a", 1, 1), tok(api.VarTok, "b", 1, 2+len(c)), end(1, 3+len(c)))
		wantTokens(t, "+"+c+"+", tok(api.OpTok, "+", 1, 1), tok(api.OpTok, "+", 1, 2+len(c)), end(1, 3+len(c)))
	}
	wantTokens(t, "{-\n-}x{-\n\n -}y", tok(api.VarTok, "x", 2, 3), tok(api.VarTok, "y", 4, 4), end(4, 5))
	wantTokens(t, "{--}-}", tok(api.OpTok, "-", 1, 5), tok(api.SignTok, "}", 1, 6), end(1, 7))
	wantTokens(t, "{--}-- x", end(1, 9))
	wantTokens(t, `"{-"`, tok(api.StrTok, "{-", 1, 1), end(1, 5))
	wantTokens(t, "--{-\n{--}x", tok(api.VarTok, "x", 2, 5), end(2, 6))
	deep := strings.Repeat("{-", 4000) + strings.Repeat("-}", 4000)
	wantTokens(t, deep, end(1, 16001))
	wantError(t, deep[:len(deep)-1], api.ErrComment, 1, 1)
}

// P1.2: what is told of a comment that is not closed is the outermost one's start.
func TestOpenComments(t *testing.T) {
	for _, c := range []string{"{-", "{-}", "{--", "{- {- -}", "{-{-}-}", "{-\n\n{-", "{---", "{-\"-\"}", "{-{-"} {
		wantError(t, c, api.ErrComment, 1, 1)
		wantError(t, "a\n b "+c, api.ErrComment, 2, 4)
		wantError(t, "{- -}\n{--}"+c, api.ErrComment, 2, 5)
	}
}

// P1.1, P1.2: each byte in a literal, and each byte behind a backslash.
func TestLiteralBytes(t *testing.T) {
	wantTokens(t, `""`, tok(api.StrTok, "", 1, 1), end(1, 3))
	wantTokens(t, `"a""b"c`, tok(api.StrTok, "a", 1, 1), tok(api.StrTok, "b", 1, 4), tok(api.VarTok, "c", 1, 7), end(1, 8))
	for b := range 256 {
		c := string([]byte{byte(b)})
		literal := `"a` + c + `b"`
		if b >= 32 && b <= 126 && c != `"` && c != `\` {
			wantTokens(t, literal, tok(api.StrTok, "a"+c+"b", 1, 1), end(1, 6))
		} else {
			wantError(t, literal, api.ErrText, 1, pick(c == `"`, 5, 1))
		}
		escaped := `x "a\` + c + `b"`
		if at := strings.Index(`nt\"`, c); at >= 0 {
			denoted := "\n\t\\\""[at : at+1]
			wantTokens(t, escaped, tok(api.VarTok, "x", 1, 1), tok(api.StrTok, "a"+denoted+"b", 1, 3), end(1, 9))
		} else if b >= '0' && b <= '9' {
			wantTokens(t, escaped, tok(api.VarTok, "x", 1, 1), tok(api.StrTok, "a"+string([]byte{byte(b) - '0'})+"b", 1, 3), end(1, 9))
		} else {
			wantError(t, escaped, api.ErrText, 1, 3)
		}
	}
}

func pick(first bool, a, b int) int {
	if first {
		return a
	}
	return b
}

// P1.1, P1.2: byte numbers take all digits that follow, and end with 255.
func TestLiteralNumbers(t *testing.T) {
	for n := range 400 {
		for _, form := range []string{"%d", "%03d", "%020d"} {
			digits := fmt.Sprintf(form, n)
			literal := `"\` + digits + `x"`
			if n > 255 {
				wantError(t, literal, api.ErrText, 1, 1)
				continue
			}
			wantTokens(t, literal, tok(api.StrTok, string([]byte{byte(n)})+"x", 1, 1), end(1, 1+len(literal)))
		}
	}
	wantTokens(t, `"\1\2\0033"`, tok(api.StrTok, "\x01\x02\x21", 1, 1), end(1, 12))
	for _, n := range []string{"1000", "2550", "4294967296", "18446744073709551616", "18446744073709551681", strings.Repeat("9", 5000)} {
		wantError(t, `"\`+n+`"`, api.ErrText, 1, 1)
	}
}

// P1.2: literals that are not closed on their line, or not right.
func TestWrongLiterals(t *testing.T) {
	for _, l := range []string{`"`, `"a`, `"\`, `"\"`, `"\\\"`, `"\1`, `"\n`, "\"a\nb\"", "\"\n\"", "\"\\\n\"", `"\q"`, `"\'"`, `"\x41"`, `"\-1"`,
		`"\ "`, `"\N"`, "\"\t\"", "\"\r\"", "\"\x7f\"", "\"\x80\"", "\"\u00e4\"", "\"\x00\"", `"a\256`, `"\256" ~`} {
		wantError(t, l, api.ErrText, 1, 1)
		wantError(t, "a\n\n b "+l, api.ErrText, 3, 4)
	}
	wantError(t, `"a{-" -}"`, api.ErrText, 1, 9)
}

// P1.1, P1.2: numbers are below 2^63.
func TestIntegers(t *testing.T) {
	for _, n := range []int{0, 1, 9, 10, 1234567890, 1<<31 - 1, 1 << 31, 1 << 32, 1<<62 - 1, 1 << 62, 1<<63 - 2, 1<<63 - 1} {
		for _, zeros := range []string{"", "0", strings.Repeat("0", 1000)} {
			digits := zeros + strconv.Itoa(n)
			wantTokens(t, digits, num(digits, n, 1, 1), end(1, 1+len(digits)))
		}
	}
	for _, digits := range []string{"9223372036854775808", "9223372036854775809", "9223372036854775810", "9223372036854775899",
		"9223372036854775900", "9999999999999999999", "10000000000000000000", "18446744073709551615", "18446744073709551616",
		"18446744073709551617", "92233720368547758070", "00009223372036854775808", strings.Repeat("1", 16384)} {
		wantError(t, digits, api.ErrInt, 1, 1)
	}
	wantError(t, "a\n +9223372036854775808b", api.ErrInt, 2, 3)
	wantTokens(t, "-1", tok(api.OpTok, "-", 1, 1), num("1", 1, 1, 2), end(1, 3))
	wantTokens(t, "1.5", num("1", 1, 1, 1), tok(api.OpTok, ".", 1, 2), num("5", 5, 1, 3), end(1, 4))
	wantTokens(t, "0x1_2", num("0", 0, 1, 1), tok(api.VarTok, "x1_2", 1, 2), end(1, 6))
}

// P1.2: a text of 16384 bytes is read, one of more is not, whatever else is wrong in it.
func TestLength(t *testing.T) {
	word := strings.Repeat("a", 16384)
	wantTokens(t, word, tok(api.VarTok, word, 1, 1), end(1, 16385))
	wantTokens(t, strings.Repeat("\n", 16384), end(16385, 1))
	wantError(t, word+"a", api.ErrLong, 1, 1)
	wantError(t, word+"\n", api.ErrLong, 1, 1)
	wantError(t, "~"+word, api.ErrLong, 1, 1)
	wantError(t, "{-"+word, api.ErrLong, 1, 1)
	wantError(t, "\n\n~"+word[3:], api.ErrByte, 3, 1)
	wantError(t, strings.Repeat("\n", 1<<20), api.ErrLong, 1, 1)
}

// P1.2: of several errors the first one in the text is told.
func TestFirstError(t *testing.T) {
	wrongs := []struct {
		text   string
		number api.Errno
	}{{"~", api.ErrByte}, {"9223372036854775808", api.ErrInt}, {`"\q"`, api.ErrText}, {"{- ", api.ErrComment}}
	for _, first := range wrongs {
		for _, second := range wrongs {
			wantError(t, "a\n  "+first.text+"\n"+second.text, first.number, 2, 3)
		}
	}
	wantError(t, "{- ~ -} \"~\" --~\n~", api.ErrByte, 2, 1)
}

// P1.1, P1.2: all short texts over some bytes, held against the second lexer.
func TestShortTexts(t *testing.T) {
	for _, bytes := range []string{"{-} \na\">", "\"\\025n\n\t", "aA_'0:=-(", "-|{}:\n\"\xff"} {
		var all func(text string, left int)
		all = func(text string, left int) {
			wantSame(t, text)
			for i := 0; i < len(bytes) && left > 0; i++ {
				all(text+bytes[i:i+1], left-1)
			}
		}
		all("", 5)
	}
}

// P1.1, P1.2: longer texts, of pieces that matter, held against the second lexer.
func TestLongerTexts(t *testing.T) {
	pieces := []string{" ", "\n", "a", "Bc'", "_", "where", "in", "infixl", "0", "12", "255", "256", "9223372036854775807", "9223372036854775808",
		"{-", "-}", "{", "}", "-", "--", "=", "->", "<-", ":", "::", "\\", "|", "@", "=>", "+", "\"", "\"a\"", "\\n", "\\\"", "\\065", "(", ")", "`", ",", ";", "[", "]", "~", "'", "\t"}
	r := rand.New(rand.NewSource(1))
	for range 20000 {
		text := ""
		for range r.Intn(12) {
			text += pieces[r.Intn(len(pieces))]
		}
		wantSame(t, text)
	}
	wantSame(t, api.Prelude)
}

// sourceOf is a form in which a token may stand in a text.
func sourceOf(k api.Token) string {
	if k.Kind != api.StrTok {
		return k.Text
	}
	s := `"`
	for i := range len(k.Text) {
		if c := k.Text[i]; c >= 'a' && c <= 'z' || c == ' ' {
			s += string([]byte{c})
		} else {
			s += fmt.Sprintf(`\%03d`, c)
		}
	}
	return s + `"`
}

// sampleTokens is tokens of all kinds, without places, in an order that seed tells.
func sampleTokens(seed int64) []api.Token {
	r := rand.New(rand.NewSource(seed))
	some := func(bytes string, most int) string {
		s := ""
		for range r.Intn(most) + 1 {
			i := r.Intn(len(bytes))
			s += bytes[i : i+1]
		}
		return s
	}
	var l []api.Token
	for range r.Intn(60) {
		switch r.Intn(6) {
		case 0:
			w := some("abzAZ_", 1) + some("abzAZ_09'", 6)
			l = append(l, api.Token{Kind: referenceWordKind(w), Text: w})
		case 1:
			n := r.Int()
			l = append(l, api.Token{Kind: api.IntTok, Text: "00" + strconv.Itoa(n), N: n})
		case 2:
			if o := some("!#$%&*+./<=>?@\\^|-:", 3); strings.Trim(o, "-") != "" || o == "-" {
				l = append(l, api.Token{Kind: referenceOperatorKind(o), Text: o})
			}
		case 3:
			l = append(l, api.Token{Kind: api.SignTok, Text: some("(),;[]{}`", 1)})
		case 4:
			l = append(l, api.Token{Kind: api.StrTok, Text: some("a\x00\n\"\\\xff0 z-{}", 9)})
		case 5:
			l = append(l, api.Token{Kind: api.KeyTok, Text: reservedWords[r.Intn(len(reservedWords))]})
		}
	}
	return l
}

// P1.3: tokens with one blank between them are read again, each at its first byte; so they
// are with comments and newlines there.
func TestAssembled(t *testing.T) {
	gaps := []string{" ", "\n", "{--}", " {- {- ~ -} \n -} ", " -- ~\"\n"}
	for seed := range int64(400) {
		l := sampleTokens(seed)
		for _, gap := range gaps {
			text, line, col := "", 1, 1
			move := func(s string) {
				text += s
				line += strings.Count(s, "\n")
				col = len(text) - strings.LastIndex(text, "\n")
			}
			var want []api.Token
			for i, k := range l {
				if i > 0 {
					move(gap)
				}
				k.Line, k.Col = line, col
				want = append(want, k)
				move(sourceOf(k))
			}
			wantTokens(t, text, append(want, end(line, col))...)
		}
	}
}

// P1.3: places increase strictly, and what stands there is the token's first byte.
func TestPlaces(t *testing.T) {
	l, d := lex.Read(api.Prelude)
	if d != (api.Diag{}) || len(l) < 1000 {
		t.Fatal(len(l), d)
	}
	lines := strings.Split(api.Prelude, "\n")
	line, col := 0, 0
	for _, k := range l {
		if k.Line < line || k.Line == line && k.Col <= col {
			t.Errorf("%+v behind %d, %d", k, line, col)
		}
		line, col = k.Line, k.Col
		if k.Kind != api.StrTok && !strings.HasPrefix(lines[line-1][col-1:], k.Text) {
			t.Errorf("%+v does not stand there", k)
		}
	}
}

// P1.3: a comment for each blank leaves the tokens, but for their columns.
func TestCommentsAreBlanks(t *testing.T) {
	text, _, found := strings.Cut(api.Prelude, "instance Show") // no literal stands ahead of it
	if !found || strings.Contains(text, `"`) {
		t.Fatal("the Prelude has another beginning")
	}
	got, d := lex.Read(strings.ReplaceAll(text, " ", `{-"-}`))
	want, e := lex.Read(text)
	if d != (api.Diag{}) || e != (api.Diag{}) || len(got) != len(want) {
		t.Fatal(d, e, len(got), len(want))
	}
	for i := range got {
		got[i].Col, want[i].Col = 0, 0
		if got[i] != want[i] {
			t.Errorf("%+v, not %+v", got[i], want[i])
		}
	}
}

// R2, R3: what is done with one answer changes no other one.
func TestAnswersAreApart(t *testing.T) {
	first, _ := lex.Read("a b")
	first[0].Text = "changed"
	_ = append(first[:1], api.Token{})
	wantTokens(t, "a b", tok(api.VarTok, "a", 1, 1), tok(api.VarTok, "b", 1, 3), end(1, 4))
}
