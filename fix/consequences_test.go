package fix_test

import (
	"math/rand"
	"slices"
	"strconv"
	"strings"
	"testing"

	"teasel/api"
	"teasel/fix"
)

// A part is an operand or an operator of a sequence, as it comes out.
type part struct {
	operator    bool
	name        string
	place       int // its Line: each part of a sequence has one of its own
	left, right *part
}

// expressionPart reads the part of a sequence that an expression has become.
// An operator of the sequence is one whose Line is among these, with its name;
// all else is an operand.
func expressionPart(n api.Node, lines map[int]string) *part {
	if n.Kind != api.EApp || n.Subs[0].Kind != api.EApp {
		return &part{place: n.Line}
	}
	op, left, right := n.Subs[0].Subs[0], n.Subs[0].Subs[1], n.Subs[1]
	if lines[op.Line] != op.Name {
		return &part{place: n.Line}
	}
	return &part{operator: true, name: op.Name, place: op.Line, left: expressionPart(left, lines), right: expressionPart(right, lines)}
}

// patternPart is for a sequence of patterns none of which is a PCon.
func patternPart(n api.Node) *part {
	if n.Kind != api.PCon {
		return &part{place: n.Line}
	}
	return &part{operator: true, name: n.Name, left: patternPart(n.Subs[0]), right: patternPart(n.Subs[1])}
}

// reading is the parts from left to right.
func (p *part) reading() []*part {
	if !p.operator {
		return []*part{p}
	}
	return slices.Concat(p.left.reading(), []*part{p}, p.right.reading())
}

// A scale is the fixities of operators by their qualified names.
type scale map[string]fixed

func (s scale) of(name string) (string, int) {
	if f, found := s[name]; found {
		return f.declaration.Name, f.declaration.N
	}
	return "infixl", 9
}

// holdLevels holds what P5.3 says of the operands of operators.
func holdLevels(t *testing.T, p *part, s scale) {
	t.Helper()
	if !p.operator {
		return
	}
	_, level := s.of(p.name)
	hold := func(operand *part, keyword string) {
		if !operand.operator {
			return
		}
		associativity, inner := s.of(operand.name)
		if !(inner > level || inner == level && associativity == keyword) {
			t.Fatalf("%s (%s %d) is an operand of %s (%d)", operand.name, associativity, inner, p.name, level)
		}
		holdLevels(t, operand, s)
	}
	hold(p.left, "infixl")
	hold(p.right, "infixr")
}

// randomScale is a module's DFixes, and what they say.
func randomScale(r *rand.Rand, names []string) ([]api.Node, scale) {
	s := scale{"Prim.:": {declaration: fixity("infixr", 5)}}
	var out []api.Node
	for _, name := range names {
		if r.Intn(6) > 0 {
			d := fixity([]string{"infixl", "infixr", "infix"}[r.Intn(3)], r.Intn(10), name)
			out = append(out, d)
			s["M."+name] = fixed{declaration: d}
		}
	}
	return out, s
}

const (
	valueNames = "+ - * f g h"
	conNames   = ":+ :- :* C D E"
)

// around is a module with these fixities, their operators, and a function
// with that clause.
func around(fixities []api.Node, clause api.Node) api.Node {
	declarations := slices.Clone(fixities)
	var cons []api.Node
	for _, name := range strings.Fields(valueNames) {
		declarations = append(declarations, function(name, nil, node(api.EList)))
	}
	for _, name := range strings.Fields(conNames) {
		cons = append(cons, call(api.DCon, name, list()))
	}
	declarations = append(declarations, call(api.DData, "T", list(), list(cons...)), call(api.DFun, "z", clause))
	return module("M", declarations...)
}

// P5.3: the operands and operators of a sequence of expressions come out in
// order, each operand with an operator that binds as it must.
func TestOrderOfExpressions(t *testing.T) {
	r := rand.New(rand.NewSource(53))
	names := strings.Fields(valueNames + " " + conNames)
	count, longest := 0, 0
	for range 20000 {
		fixities, s := randomScale(r, names)
		lines := map[int]string{}
		operand := func(line int) api.Node {
			n := api.Node{Kind: api.EInt, N: line, Line: line}
			if r.Intn(8) > 0 {
				return n
			}
			op := operator(names[r.Intn(len(names))])
			return api.Node{Kind: api.EOps, Line: line, Subs: []api.Node{n, op, node(api.EList)}}
		}
		sequence := []api.Node{operand(1)}
		for i := range 1 + r.Intn(9) {
			op := operator(append(names, ":")[r.Intn(len(names)+1)])
			op.Line = 2*i + 2
			lines[op.Line] = "M." + op.Name
			if op.Name == ":" {
				lines[op.Line] = "Prim.:"
			}
			sequence = append(sequence, op, operand(2*i+3))
		}
		clause := node(api.DClause, list(), rightSide(node(api.EOps, sequence...)))
		out, d := fix.Mend(around(fixities, clause))
		if d.Number != api.OK {
			continue
		}
		count++
		longest = max(longest, len(sequence)/2)
		declarations := out[0].Subs[2].Subs
		got := expressionPart(declarations[len(declarations)-1].Subs[0].Subs[1].Subs[0].Subs[0].Subs[1], lines)
		for i, p := range got.reading() {
			if p.place != i+1 || p.operator != (i%2 == 1) {
				t.Fatalf("part %d is %+v", i, p)
			}
		}
		if len(got.reading()) != len(sequence) {
			t.Fatal("parts are missing")
		}
		holdLevels(t, got, s)
	}
	if count < 5000 || longest < 9 {
		t.Error("too few sequences without errors:", count, longest)
	}
}

// P5.3: likewise sequences of patterns.
func TestOrderOfPatterns(t *testing.T) {
	r := rand.New(rand.NewSource(54))
	names := strings.Fields(conNames)
	count := 0
	for range 20000 {
		fixities, s := randomScale(r, names)
		sequence := []api.Node{{Kind: api.PInt, Line: 1}}
		var want []string
		for i := range 1 + r.Intn(9) {
			name := append(names, ":")[r.Intn(len(names)+1)]
			sequence = append(sequence, operator(name), api.Node{Kind: api.PInt, Line: i + 2})
			full := "M." + name
			if name == ":" {
				full = "Prim.:"
			}
			want = append(want, strconv.Itoa(i+1), full)
		}
		want = append(want, strconv.Itoa(len(want)/2+1))
		clause := node(api.DClause, list(node(api.POps, sequence...)), rightSide(node(api.EList)))
		out, d := fix.Mend(around(fixities, clause))
		if d.Number != api.OK {
			continue
		}
		count++
		declarations := out[0].Subs[2].Subs
		p := patternPart(declarations[len(declarations)-1].Subs[0].Subs[0].Subs[0])
		var got []string
		for _, p := range p.reading() {
			if p.operator {
				got = append(got, p.name)
			} else {
				got = append(got, strconv.Itoa(p.place))
			}
		}
		if !slices.Equal(got, want) {
			t.Fatalf("%v, not %v", got, want)
		}
		holdLevels(t, p, s)
	}
	if count < 5000 {
		t.Error("too few sequences without errors:", count)
	}
}
