package parse_test

import (
	"math/rand"
	"slices"
	"strings"
	"testing"

	"teasel/api"
	"teasel/lex"
	"teasel/parse"
)

// The grammar of the chapter, for a recognizer that knows no other rule. What
// the chapter says beside the grammar is in it too: braces that are the same,
// empty braces behind constructors alone, imports first, and that in (a +) the
// operand does not go on behind the operator, as a lambda would. A quote is
// the word QUOTE; {0 and }0, {1 and }1 are the braces with that N.
const grammarText = `
file     = module CON [ items ] where modblock END
modblock = {0 modparts }0 | {1 modparts }1
modparts = imports | tops | imports ; tops
imports  = [ import ] { ; [ import ] }
tops     = [ top ] { ; [ top ] }
items    = LP [ item { , item } ] RP
item     = CON | var
var      = VAR | LP OP RP
con      = CON | LP CONOP RP
import   = IMPORT CON [ items ]
top      = data | class | instance | fixity | equation
data     = DATA CON { VAR } [ = constr { BAR constr } ]
constr   = con { atype } | con {0 field { , field } }0
field    = var :: type
class    = CLASS CON VAR [ where block:field ]
instance = INSTANCE [ context => ] CON head [ where block:equation ]
context  = CON VAR | LP [ CON VAR { , CON VAR } ] RP
head     = CON | LB [ VAR ] RB | LP RP | LP CON { VAR } RP | LP , [ , ] RP | LP -> RP | LP VAR , VAR [ , VAR ] RP | LP VAR -> VAR RP
fixity   = infixl INT op { , op } | infixr INT op { , op } | infix INT op { , op }
op       = OP | CONOP | QUOTE VAR QUOTE | QUOTE CON QUOTE
type     = btype [ -> type ]
btype    = atype { atype }
atype    = CON | VAR | LP [ type [ , type [ , type ] ] ] RP | LP , [ , ] RP | LP -> RP | LB [ type ] RB
equation = exp eqrhs
eqrhs    = = exp [ eqwhere ] | eqguard { eqguard } [ eqwhere ]
eqguard  = BAR exp = exp
eqwhere  = where block:equation
alt      = exp altrhs
altrhs   = -> exp [ eqwhere ] | altguard { altguard } [ eqwhere ]
altguard = BAR exp -> exp
exp      = operand { op operand }
operand  = \ atom { atom } -> exp | let block:equation in exp | if exp then exp else exp | closed
closed   = case exp of block:alt | do block:statement | atom { atom }
statement= let block:equation | exp [ <- exp ]
atom     = base { record } | conbase {0 }0 { record }
record   = {0 assign { , assign } }0
assign   = var = exp
conbase  = CON | LP RP | LP , [ , ] RP | LP CONOP RP | LP conbase RP
base     = VAR [ @ atom ] | CON | INT | LONGINT | STR | _ | LB [ exp { , exp } ] RB | LP RP | LP , [ , ] RP | LP OP RP | LP CONOP RP
         | LP op exp RP | LP closed { op closed } op RP | LP exp [ , exp [ , exp ] ] RP
`

// signs are the tokens that the grammar's own signs, or its rules' names,
// are in the way of.
var signs = map[string]string{"LP": "(", "RP": ")", "LB": "[", "RB": "]", "BAR": "|", "QUOTE": "`", "IMPORT": "import", "DATA": "data", "CLASS": "class", "INSTANCE": "instance"}

// A grammar has for each name what it may consist of. What is no name of it
// is a token.
type grammar struct {
	rules   map[string][][]string
	isEmpty map[string]bool
}

func readGrammar(text string) *grammar {
	g := &grammar{rules: map[string][][]string{}, isEmpty: map[string]bool{}}
	var lines []string
	for _, line := range strings.Split(strings.TrimSpace(text), "\n") {
		if strings.HasPrefix(line, " ") {
			lines[len(lines)-1] += line
		} else {
			lines = append(lines, line)
		}
	}
	for _, line := range lines {
		name, body, _ := strings.Cut(line, "=")
		words := strings.Fields(body)
		g.rule(strings.TrimSpace(name), &words, "")
	}
	for range len(g.rules) {
		for name, bodies := range g.rules {
			for _, body := range bodies {
				if !slices.ContainsFunc(body, func(s string) bool { return !g.isEmpty[s] }) {
					g.isEmpty[name] = true
				}
			}
		}
	}
	return g
}

// rule takes words up to an end as what a name may consist of.
func (g *grammar) rule(name string, words *[]string, end string) {
	bodies := [][]string{{}}
	for len(*words) > 0 && (*words)[0] != end {
		word := (*words)[0]
		*words = (*words)[1:]
		last := &bodies[len(bodies)-1]
		switch {
		case word == "|":
			bodies = append(bodies, []string{})
		case word == "[":
			*last = append(*last, g.group(words, "]", false))
		case word == "{":
			*last = append(*last, g.group(words, "}", true))
		default:
			g.block(word)
			*last = append(*last, word)
		}
	}
	if end != "" {
		*words = (*words)[1:]
	}
	g.rules[name] = append(g.rules[name], bodies...)
}

// group is a new name for what is in brackets.
func (g *grammar) group(words *[]string, end string, again bool) string {
	name := "group" + itoa(len(g.rules))
	g.rules[name] = [][]string{{}}
	inner := name + "in"
	g.rule(inner, words, end)
	if again {
		g.rules[name] = append(g.rules[name], []string{inner, name})
	} else {
		g.rules[name] = append(g.rules[name], []string{inner})
	}
	return name
}

// block adds the rule of a block, if it is one and new.
func (g *grammar) block(name string) {
	part, ok := strings.CutPrefix(name, "block:")
	if !ok || g.rules[name] != nil {
		return
	}
	g.rules[name] = [][]string{{"{0", "parts:" + part, "}0"}, {"{1", "parts:" + part, "}1"}}
	g.rules["parts:"+part] = [][]string{{}, {part}, {"parts:" + part, ";"}, {"parts:" + part, ";", part}}
}

// tokens is all tokens of the grammar.
func (g *grammar) tokens() []string {
	var out []string
	for _, bodies := range g.rules {
		for _, body := range bodies {
			for _, s := range body {
				if g.rules[s] == nil && !slices.Contains(out, s) {
					out = append(out, s)
				}
			}
		}
	}
	slices.Sort(out)
	return out
}

// An item is a rule that has been gone through up to a dot, from a place on.
type item struct {
	name      string
	body, dot int
	from      int
}

// A recognizer goes through tokens; it knows all modules that they begin.
type recognizer struct {
	*grammar
	sets []map[item]bool
}

func (g *grammar) start() *recognizer {
	r := &recognizer{grammar: g}
	r.close([]item{{name: "file"}})
	return r
}

// next is what stands behind an item's dot.
func (r *recognizer) next(it item) string {
	body := r.rules[it.name][it.body]
	if it.dot == len(body) {
		return ""
	}
	return body[it.dot]
}

// close adds a set that holds these items and all that follow of them.
func (r *recognizer) close(work []item) {
	set := map[item]bool{}
	place := len(r.sets)
	r.sets = append(r.sets, set)
	for len(work) > 0 {
		it := work[len(work)-1]
		work = work[:len(work)-1]
		if set[it] {
			continue
		}
		set[it] = true
		wanted := r.next(it)
		if wanted == "" {
			for waiting := range r.sets[it.from] {
				if r.next(waiting) == it.name {
					waiting.dot++
					work = append(work, waiting)
				}
			}
			continue
		}
		for body := range r.rules[wanted] {
			work = append(work, item{name: wanted, body: body, from: place})
		}
		if r.isEmpty[wanted] {
			it.dot++
			work = append(work, it)
		}
	}
}

// takes says whether a module may go on with a token.
func (r *recognizer) takes(token string) bool {
	return len(r.behind(token)) > 0
}

func (r *recognizer) behind(token string) []item {
	var out []item
	for it := range r.sets[len(r.sets)-1] {
		if r.next(it) == token {
			it.dot++
			out = append(out, it)
		}
	}
	return out
}

func (r *recognizer) take(token string) {
	r.close(r.behind(token))
}

// made is a token of the grammar as Parse takes it.
func made(token string, col int) api.Token {
	t := api.Token{Line: 1, Col: col}
	kinds := map[string]int{"VAR": api.VarTok, "CON": api.ConTok, "OP": api.OpTok, "CONOP": api.ConOpTok, "INT": api.IntTok, "LONGINT": api.IntTok, "STR": api.StrTok, "END": api.EndTok}
	switch {
	case kinds[token] != 0:
		t.Kind = kinds[token]
		t.Text = map[string]string{"VAR": "x", "CON": "A", "OP": "+", "CONOP": ":", "INT": "9", "LONGINT": "10"}[token]
		t.N = map[string]int{"INT": 9, "LONGINT": 10}[token]
	case strings.ContainsAny(token, "{}"):
		t.Kind, t.Text, t.N = api.SignTok, token[:1], int(token[1]-'0')
	default:
		t.Text = token
		if sign := signs[token]; sign != "" {
			t.Text = sign
		}
		t.Kind = api.SignTok
		if t.Text >= "a" && t.Text < "{" {
			t.Kind = api.KeyTok
		}
	}
	return t
}

// nameOfToken is the grammar's name of a token.
func nameOfToken(t api.Token) string {
	switch t.Kind {
	case api.VarTok:
		return "VAR"
	case api.ConTok:
		return "CON"
	case api.OpTok:
		return "OP"
	case api.ConOpTok:
		return "CONOP"
	case api.StrTok:
		return "STR"
	case api.EndTok:
		return "END"
	case api.IntTok:
		if t.N > 9 {
			return "LONGINT"
		}
		return "INT"
	}
	if t.Text == "{" || t.Text == "}" {
		return t.Text + itoa(t.N)
	}
	for name, sign := range signs {
		if sign == t.Text {
			return name
		}
	}
	return t.Text
}

// P3.2: from the beginnings of random modules on, each token is refused if no
// module goes on with it, and no other token is.
func TestEachNextToken(t *testing.T) {
	g := readGrammar(grammarText)
	all := g.tokens()
	steps := 0
	for seed := range int64(150) {
		m := &maker{Rand: rand.New(rand.NewSource(seed))}
		r := g.start()
		var before []api.Token
		for len(before) < 45 {
			steps++
			var fitting []string
			for _, token := range all {
				last := made(token, len(before)+1)
				end := api.Token{Kind: api.EndTok, Line: 2, Col: 1}
				_, d := parse.Parse(append(slices.Clone(before), last, end))
				refused := d == api.Diag{Line: 1, Col: last.Col, Number: api.ErrParse}
				if refused == r.takes(token) {
					t.Fatalf("%s, then %s: taken %v, Parse tells %+v", texts(before), token, r.takes(token), d)
				}
				if r.takes(token) && token != "END" {
					fitting = append(fitting, token)
				}
			}
			if len(fitting) == 0 {
				break
			}
			token := pick(m, fitting...)
			if token == "}0" || token == "}1" { // most of the time go on instead
				token = pick(m, fitting...)
			}
			before = append(before, made(token, len(before)+1))
			r.take(token)
		}
	}
	if steps < 3000 {
		t.Error("too few steps:", steps)
	}
}

// firstRefused is the place of the first token that no module goes on with, or
// how many tokens there are.
func firstRefused(g *grammar, ts []api.Token) int {
	r := g.start()
	for i, t := range ts {
		token := nameOfToken(t)
		if !r.takes(token) {
			return i
		}
		r.take(token)
	}
	return len(ts)
}

// P3.2: modules in which tokens are changed, left out, doubled or swapped.
func TestChangedTokens(t *testing.T) {
	g := readGrammar(grammarText)
	all := g.tokens()
	refused := 0
	for seed := range int64(1500) {
		m := &maker{Rand: rand.New(rand.NewSource(seed))}
		w := &writer{place: inOrder(m), choose: func() bool { return m.Intn(8) == 0 }}
		w.module(m.module())
		if len(w.tokens) > 300 || deepest(w.tokens) > 60 {
			continue
		}
		ts := changedTokens(m, w.tokens, all)
		place := firstRefused(g, ts)
		_, d := parse.Parse(ts)
		switch {
		case place < len(ts):
			refused++
			if want := (api.Diag{Line: ts[place].Line, Col: ts[place].Col, Number: api.ErrParse}); d != want {
				t.Fatalf("%s\ngot %+v, want %+v at %d", texts(ts), d, want, place)
			}
		case d.Number != api.OK && d.Number != api.ErrPattern:
			t.Fatalf("%s\ngot %+v, want none", texts(ts), d)
		}
	}
	if refused < 500 {
		t.Error("too few that are refused:", refused)
	}
}

func changedTokens(m *maker, ts []api.Token, all []string) []api.Token {
	ts = slices.Clone(ts)
	i, j := m.Intn(len(ts)-1), m.Intn(len(ts)-1)
	switch m.Intn(5) {
	case 0:
		ts = slices.Delete(ts, i, i+1)
	case 1:
		ts = slices.Insert(ts, i, ts[j])
	case 2:
		ts[i], ts[j] = ts[j], ts[i]
	case 3:
		ts[i] = made(pick(m, all...), 1)
	case 4:
		ts = slices.Insert(ts, i, made(pick(m, all...), 1))
	}
	for k := range ts {
		ts[k].Line, ts[k].Col = 1+k/10, 1+k%10
	}
	return ts
}

// P3.2: the grammar's own words are those of the Prelude too.
func TestGrammarOfPrelude(t *testing.T) {
	ts := lay(t, api.Prelude)
	if place := firstRefused(readGrammar(grammarText), ts); place != len(ts) {
		t.Error(ts[place])
	}
	ts, _ = lex.Read(everything)
	if place := firstRefused(readGrammar(grammarText), ts); place != len(ts) {
		t.Error(ts[place])
	}
}
