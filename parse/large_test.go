package parse_test

import (
	"slices"
	"strings"
	"testing"

	"teasel/api"
	"teasel/lex"
	"teasel/parse"
)

// repeated is the tokens of a module in which some are repeated.
func repeated(t *testing.T, before, again string, times int, after string) []api.Token {
	t.Helper()
	read := func(text string) []api.Token {
		ts, d := lex.Read(text)
		if d != (api.Diag{}) {
			t.Fatalf("%q: %+v", text, d)
		}
		return ts[:len(ts)-1]
	}
	ts := read("module M where { " + before)
	part := read(again)
	for range times {
		ts = append(ts, part...)
	}
	ts = append(ts, read(after+" }")...)
	return append(ts, api.Token{Kind: api.EndTok, Line: 9, Col: 9})
}

// R1 and P3.4: what is nested without brackets may be so as deep as there are
// tokens; then what Parse answers is Right.
func TestDeepWithoutBrackets(t *testing.T) {
	const times = 50000
	for _, c := range [][3]string{
		{"f = ", `\x -> `, "a"},
		{"f = ", "if a then b else ", "c"},
		{"f = a", " a", ""},
		{"f = a", " + a", ""},
		{"f = a", ` + \x -> a`, ""},
		{"f ", "x@", "y = a"},
		{"f", " x", " = a"},
		{"C", " x", " = a"},
		{"f (a", " : b", ") = c"},
		{"f = a", " { l = b }", ""},
		{"class C c where { m :: ", "a -> ", "b }"},
		{"class C c where { m :: a", " b", " }"},
		{"f = a", "; f = a", ""},
		{"f x = a", "; f x = a", ""},
		{"", "data T = A | B C; ", ""},
		{"", ";", ""},
		{"f | a = b", " | a = b", ""},
		{"f = [a", ", a", "]"},
		{"f = do { a", "; b <- a", "; a }"},
		{"f = case a of { ", "b -> c; ", "}"},
	} {
		n, d := parse.Parse(repeated(t, c[0], c[1], times, c[2]))
		if d != (api.Diag{}) || !parse.Right(n) {
			t.Errorf("%q: %+v", c, d)
		}
	}
}

// R1: deep wrong trees are told, not left unread.
func TestDeepAndWrong(t *testing.T) {
	const times = 50000
	for _, c := range []struct {
		before, again, after string
		wanted               api.Errno
	}{
		{"f = ", `\x -> `, "_", api.ErrPattern},
		{"f = ", `\(g x) -> `, "_", api.ErrPattern},
		{"f = ", "if a then b else ", "_", api.ErrPattern},
		{"1", " x", " = a", api.ErrPattern},
		{"f ", "x@", "(g y) = a", api.ErrPattern},
		{"f = a", " + a", " +", api.ErrParse},
		{"f = ", "if ", "a then b else c", api.ErrParse},
		{"f = ", "x@", "", api.ErrParse},
	} {
		n, d := parse.Parse(repeated(t, c.before, c.again, times, c.after))
		if d.Number != c.wanted || say(n) != "None" {
			t.Errorf("%+v: %+v", c, d)
		}
	}
}

// R2: tokens are not written to, not even behind their end, and no answer
// shares memory with another one.
func TestAnswersStandAlone(t *testing.T) {
	ts := lay(t, api.Prelude)
	spare := slices.Grow(slices.Clone(ts), 10)
	kept := slices.Clone(spare[:cap(spare)])
	first, _ := parse.Parse(spare)
	second, _ := parse.Parse(spare)
	if !slices.Equal(kept, spare[:cap(spare)]) {
		t.Error("tokens were written to")
	}
	want := sayAll(first)
	scratch(second)
	clear(spare)
	if sayAll(first) != want {
		t.Error("an answer was changed by another one or by the tokens")
	}
	parse.Right(first)
	if sayAll(first) != want {
		t.Error("Right changed a tree")
	}
}

// scratch overwrites a tree, and the memory behind the ends of its lists.
func scratch(n api.Node) {
	for _, x := range n.Subs {
		scratch(x)
	}
	clear(n.Subs[:cap(n.Subs)])
}

// R2: no two lists of an answer share memory.
func TestListsStandAlone(t *testing.T) {
	for _, text := range []string{api.Prelude, everything, "module M where\na : b + c : d = e\nf x y = a\nf x y = b\nC x = y\nx + y = (a + b * c -)"} {
		n := tree(t, text)
		var lists []*[]api.Node
		seen := map[*api.Node]bool{}
		var collect func(*api.Node)
		collect = func(n *api.Node) {
			if seen[n] {
				t.Fatal("two lists share a node")
			}
			seen[n] = true
			lists = append(lists, &n.Subs)
			for i := range n.Subs {
				collect(&n.Subs[i])
			}
		}
		collect(&n)
		for _, list := range lists {
			before := sayAll(n)
			whole := *list
			*list = append(*list, call(api.EVar, "more"))
			*list = whole
			if sayAll(n) != before {
				t.Fatal("an append to a list changed another one")
			}
		}
	}
}

// R3: an answer depends on the tokens alone.
func TestAnswersAgain(t *testing.T) {
	for _, text := range []string{api.Prelude, everything, "module M where f = _", "module M where f = = x"} {
		ts := lay(t, text)
		n, d := parse.Parse(ts)
		for range 3 {
			if again, e := parse.Parse(ts); sayAll(again) != sayAll(n) || e != d {
				t.Errorf("%.30q: another answer", text)
			}
		}
	}
}

// R1: Parse ends and does not panic for any tokens.
func TestAnyTokens(t *testing.T) {
	words := []string{"module", "M", "where", "{", "}", ";", "f", "=", "(", ")", "+", "_", "\x00", "", "é", strings.Repeat("x", 20000)}
	for _, a := range words {
		for _, b := range words {
			for kind := -1; kind <= api.EndTok+1; kind++ {
				for other := range api.EndTok + 1 {
					ts := []api.Token{{Kind: kind, Text: a, N: -kind, Line: -1}, {Kind: other, Text: b, N: kind, Col: -1}}
					if n, d := parse.Parse(ts); d.Number != api.ErrParse || n.Kind != api.None || n.Subs != nil {
						t.Fatalf("%+v: %+v", ts, d)
					}
				}
			}
		}
	}
}
