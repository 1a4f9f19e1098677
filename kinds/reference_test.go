package kinds_test

import (
	"strconv"
	"strings"

	"teasel/api"
	"teasel/fix"
)

// This is a second way to find kinds, word by word as the chapter says: it
// writes down all constraints of a module as equations, and solves them one by
// one by putting what a variable stands for wherever it occurs, once for each
// declaration and those ahead of it.

// A term is a kind in which variables stand for others: a variable if it has
// a name, an arrow if it has parts, and * otherwise.
type term struct {
	name  string
	parts []term
}

func arrowTerm(from, to term) term {
	return term{parts: []term{from, to}}
}

func (a term) equal(b term) bool {
	if a.name != b.name || len(a.parts) != len(b.parts) {
		return false
	}
	return len(a.parts) == 0 || a.parts[0].equal(b.parts[0]) && a.parts[1].equal(b.parts[1])
}

func (a term) has(name string) bool {
	if len(a.parts) == 0 {
		return a.name == name
	}
	return a.parts[0].has(name) || a.parts[1].has(name)
}

// with is a term in which a variable is replaced.
func (a term) with(name string, by term) term {
	switch {
	case len(a.parts) > 0:
		return arrowTerm(a.parts[0].with(name, by), a.parts[1].with(name, by))
	case a.name == name && name != "":
		return by
	}
	return a
}

func (a term) write() string {
	if len(a.parts) == 0 {
		return "*"
	}
	from := a.parts[0].write()
	if len(a.parts[0].parts) > 0 {
		from = "(" + from + ")"
	}
	return from + " -> " + a.parts[1].write()
}

// readTerm reads a kind as it is written, and what follows it.
func readTerm(s string) (term, string) {
	var first term
	if rest, inner := strings.CutPrefix(s, "("); inner {
		first, s = readTerm(rest)
		s = strings.TrimPrefix(s, ")")
	} else {
		s = strings.TrimPrefix(s, "*")
	}
	if rest, more := strings.CutPrefix(s, " -> "); more {
		to, rest := readTerm(rest)
		return arrowTerm(first, to), rest
	}
	return first, s
}

type equation struct {
	left, right term
}

// solveTerms is what variables stand for, if the equations have a solution.
func solveTerms(equations []equation) (map[string]term, bool) {
	solution := map[string]term{}
	for len(equations) > 0 {
		l, r := equations[0].left, equations[0].right
		equations = equations[1:]
		if l.name == "" && r.name != "" {
			l, r = r, l
		}
		switch {
		case l.equal(r):
		case l.name != "" && r.has(l.name):
			return nil, false
		case l.name != "":
			for name, other := range solution {
				solution[name] = other.with(l.name, r)
			}
			solution[l.name] = r
			for i, e := range equations {
				equations[i] = equation{e.left.with(l.name, r), e.right.with(l.name, r)}
			}
		case len(l.parts) == 0 || len(r.parts) == 0:
			return nil, false
		default:
			equations = append([]equation{{l.parts[0], r.parts[0]}, {l.parts[1], r.parts[1]}}, equations...)
		}
	}
	return solution, true
}

// A judge knows kinds by their names as they are written, and the equations of
// the module that it looks at.
type judge struct {
	written   map[string]string
	owners    map[string]term
	equations []equation
	count     int
	unused    bool // whether a method without the variable of its class was seen
}

func newJudge() *judge {
	return &judge{written: map[string]string{
		"Prim.Int": "*", "Prim.Bool": "*", "Prim.()": "*", "Prim.IO": "* -> *", "Prim.[]": "* -> *",
		"Prim.(,)": "* -> * -> *", "Prim.->": "* -> * -> *", "Prim.(,,)": "* -> * -> * -> *",
	}}
}

func (j *judge) equate(a, b term) {
	j.equations = append(j.equations, equation{a, b})
}

// declare is the kind of a DData or DClass by its number of variables.
func (j *judge) declare(d api.Node) {
	if d.Kind == api.DClass {
		j.owners[d.Name] = term{name: d.Name}
		return
	}
	var k term
	for i := len(d.Subs[0].Subs) - 1; i >= 0; i-- {
		k = arrowTerm(term{name: d.Name + " " + d.Subs[0].Subs[i].Name}, k)
	}
	j.owners[d.Name] = k
}

// typeTerm is the kind of a type whose variables are named by a function.
func (j *judge) typeTerm(n api.Node, variable func(string) string) term {
	switch n.Kind {
	case api.TVar:
		return term{name: variable(n.Name)}
	case api.TCon:
		if k, own := j.owners[n.Name]; own {
			return k
		}
		k, _ := readTerm(j.written[n.Name])
		return k
	}
	f, a := j.typeTerm(n.Subs[0], variable), j.typeTerm(n.Subs[1], variable)
	j.count++
	k := term{name: strconv.Itoa(j.count)}
	j.equate(f, arrowTerm(a, k))
	return k
}

// constrain adds the equations of a DData or DClass.
func (j *judge) constrain(d api.Node) {
	if d.Kind == api.DData {
		for _, c := range d.Subs[1].Subs {
			for _, n := range c.Subs[0].Subs {
				if n.Kind == api.DField {
					n = n.Subs[0]
				}
				j.equate(j.typeTerm(n, func(v string) string { return d.Name + " " + v }), term{})
			}
		}
		return
	}
	for _, m := range d.Subs[1].Subs {
		used := false
		j.equate(j.typeTerm(m.Subs[0], func(v string) string {
			if v == d.Subs[0].Name {
				used = true
				return d.Name
			}
			return m.Name + " " + v
		}), term{})
		j.unused = j.unused || !used
	}
}

// solution is that of the first owners, so many of them.
func (j *judge) solution(owners []api.Node, count int) (map[string]term, bool) {
	j.owners, j.equations, j.unused = map[string]term{}, nil, false
	for _, d := range owners {
		j.declare(d)
	}
	for _, d := range owners[:count] {
		j.constrain(d)
	}
	if j.unused {
		return nil, false
	}
	return solveTerms(j.equations)
}

// wrong is whether a DInst is not well-kinded.
func (j *judge) wrong(d api.Node) bool {
	n, arguments := d.Subs[1], []string(nil)
	for ; n.Kind == api.TApp; n = n.Subs[0] {
		arguments = append([]string{n.Subs[1].Name}, arguments...)
	}
	k, _ := readTerm(j.written[n.Name])
	given := map[string]string{}
	for _, a := range arguments {
		if len(k.parts) == 0 {
			return true
		}
		given[a] = k.parts[0].write()
		k = k.parts[1]
	}
	for _, p := range d.Subs[0].Subs {
		if given[p.Subs[0].Name] != j.written[p.Name] {
			return true
		}
	}
	return k.write() != j.written[d.Name]
}

// module adds the kinds of a module, or finds the first thing that is wrong.
func (j *judge) module(m api.Node) ([]api.Kinded, *api.Node) {
	owners := ownersOf(m)
	var solution map[string]term
	for i := range owners {
		var found bool
		if solution, found = j.solution(owners, i+1); !found {
			return nil, &owners[i]
		}
	}
	var all []api.Kinded
	for i, d := range owners {
		k := j.owners[d.Name]
		for name, by := range solution {
			k = k.with(name, by)
		}
		if stars(k.write()) > 64 {
			return nil, &owners[i]
		}
		all = append(all, api.Kinded{Name: d.Name, Kind: k.write()})
		j.written[d.Name] = k.write()
	}
	for i, d := range m.Subs[2].Subs {
		if d.Kind == api.DInst && j.wrong(d) {
			return nil, &m.Subs[2].Subs[i]
		}
	}
	return all, nil
}

func ownersOf(m api.Node) []api.Node {
	var owners []api.Node
	for _, d := range m.Subs[2].Subs {
		if d.Kind == api.DData || d.Kind == api.DClass {
			owners = append(owners, d)
		}
	}
	return owners
}

// answer is what Kinds must answer.
func answer(mods []api.Node) ([]api.Kinded, api.Diag) {
	mended, d := fix.Mend(mods...)
	if d.Number != api.OK {
		return nil, d
	}
	j := newJudge()
	var all []api.Kinded
	for _, m := range mended {
		own, wrong := j.module(m)
		if wrong != nil {
			return nil, api.Diag{File: m.Name, Line: wrong.Line, Col: wrong.Col, Number: api.ErrKind}
		}
		all = append(all, own...)
	}
	return all, api.Diag{}
}
