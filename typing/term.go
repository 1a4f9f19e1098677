package typing

import (
	"slices"

	"teasel/api"
)

// term is a type, or what is known of one.
type term struct {
	kind  int      // api.TVar, api.TCon or api.TApp
	name  string   // of a TCon
	parts [2]*term // of a TApp
	same  *term    // set once it has turned out to be that one
	level int      // all variables in it are of groups of that level, or of such around them
	state int      // how far it has been searched for itself
}

func newCon(name string) *term {
	return &term{kind: api.TCon, name: name}
}

func newVariable(level int) *term {
	return &term{kind: api.TVar, level: level}
}

func newApplication(function, argument *term) *term {
	level := max(function.find().level, argument.find().level)
	return &term{kind: api.TApp, parts: [2]*term{function, argument}, level: level}
}

// find is the term that stands for all that are known to be the same as t. It
// shortens the way for the next time.
func (t *term) find() *term {
	for t.same != nil {
		if t.same.same != nil {
			t.same = t.same.same
		}
		t = t.same
	}
	return t
}

// unify makes t the same as another term, and says whether they can be. What is applied
// is made the same ahead of its parts, so that this ends even if a term becomes
// a part of itself, which isEndless finds out. What is left to do is kept on a
// stack: terms may be too deep for calls within calls.
func (t *term) unify(other *term) bool {
	left := [][2]*term{{t, other}}
	for len(left) > 0 {
		last := left[len(left)-1]
		left = left[:len(left)-1]
		x, y := last[0].find(), last[1].find()
		switch {
		case x == y:
		case x.kind == api.TVar:
			x.become(y)
		case y.kind == api.TVar:
			y.become(x)
		case x.kind != y.kind || x.name != y.name:
			return false
		case x.kind == api.TApp:
			y.level = min(x.level, y.level)
			x.same = y
			left = append(left, [2]*term{x.parts[1], y.parts[1]}, [2]*term{x.parts[0], y.parts[0]})
		}
	}
	return true
}

// become makes a variable the same as another term, whose variables then stand
// wherever the variable did.
func (t *term) become(other *term) {
	left := []*term{other}
	for len(left) > 0 {
		part := left[len(left)-1].find()
		left = left[:len(left)-1]
		if part.level <= t.level {
			continue
		}
		part.level = t.level
		if part.kind == api.TApp {
			left = append(left, part.parts[0], part.parts[1])
		}
	}
	t.same = other
}

// How far a term has been searched for itself.
const (
	notBegun = iota
	begun
	searched
)

// isEndless says whether one of the terms has a part that is a part of itself.
func isEndless(terms []*term) bool {
	for _, t := range terms {
		path := []*term{t.find()}
		for len(path) > 0 {
			last := path[len(path)-1]
			if last.kind != api.TApp || last.state != notBegun {
				last.state = searched
				path = path[:len(path)-1]
				continue
			}
			last.state = begun
			for _, part := range last.parts {
				part = part.find()
				if part.state == begun {
					return true
				}
				path = append(path, part)
			}
		}
	}
	return false
}

// isTooBig says whether a term has too many nodes. It looks at no more of them,
// so that it ends even if the term is a part of itself.
func (t *term) isTooBig() bool {
	nodes := 0
	left := []*term{t}
	for len(left) > 0 {
		part := left[len(left)-1].find()
		left = left[:len(left)-1]
		nodes++
		if nodes > api.MaxType {
			return true
		}
		if part.kind == api.TApp {
			left = append(left, part.parts[0], part.parts[1])
		}
	}
	return false
}

// variables is those of a term that are of some level or of a further one.
func (t *term) variables(level int) []*term { return variablesOf(level, t) }

// variablesOf is those of several terms, each once, in the order in which they
// occur. What occurs several times is looked at once: terms may share their parts.
func variablesOf(level int, terms ...*term) []*term {
	var all []*term
	met := map[*term]struct{}{}
	left := slices.Clone(terms)
	slices.Reverse(left)
	for len(left) > 0 {
		part := left[len(left)-1].find()
		left = left[:len(left)-1]
		if _, found := met[part]; found || part.level < level {
			continue
		}
		switch part.kind {
		case api.TVar:
			all = append(all, part)
		case api.TApp:
			left = append(left, part.parts[1], part.parts[0])
		}
		met[part] = struct{}{}
	}
	return all
}

// head is the variable or constructor at which a term starts.
func (t *term) head() *term {
	t = t.find()
	for t.kind == api.TApp {
		t = t.parts[0].find()
	}
	return t
}

// arguments is the terms that follow the head.
func (t *term) arguments() []*term {
	count := 0
	for f := t.find(); f.kind == api.TApp; f = f.parts[0].find() {
		count++
	}
	all := make([]*term, count)
	for f := t.find(); f.kind == api.TApp; f = f.parts[0].find() {
		count--
		all[count] = f.parts[1]
	}
	return all
}
