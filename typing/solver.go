package typing

import (
	"slices"

	"teasel/api"
)

// group is declarations of one List whose types are inferred together, or a
// DFun of a DInst.
type group struct {
	around   *group // nil at the top
	level    int    // more by one than that of the group around it
	types    []*term
	patterns bool   // whether it contains a DPat
	required []pred // those of groups in it that have been passed on
	uses     []*use // those of names that have preds, or may come to have some
	kept     []pred // those that its names have in their schemes

	variables []*term     // those of the preds that it keeps, and has quantified
	functions []*api.Node // its DFuns
	args      []*Arg      // what its names take
}

// use is a use of a name.
type use struct {
	at     *api.Node
	binds  bool // whether at is a statement, which uses the Prelude's >>=
	known  *scheme
	inside bool // whether it stands in the group of the name
	copier *copier
	preds  []pred // those of the scheme, as they are there
}

// solver infers the types of a group at the top, and of all that is within it.
// First it infers types as if there were no preds, and then it looks at the
// preds of each group when all types are known: in which order the parts of a
// declaration are looked at must not matter.
type solver struct {
	program   *Program
	lists     map[*api.Node]*list
	known     map[string]*scheme // the names that are bound in the group
	left      []func()           // what is left to do, the next at the end
	made      []*term            // the variables that were made
	copies    map[*term][]*term  // of the variables in schemes of local names: what stands for them at each use
	bound     []*term            // the types of the names that declarations bind
	closed    []*group           // those whose types are inferred, each behind what it uses
	given     map[slot]int       // the preds that a DInst gives, and the place of each among its Needs
	arbitrary []*term            // what stands for the arguments of a DInst's type
	uses      []*use             // those of which it will be told what they take
	unknown   *term              // what stands for ambiguous variables that no type tells
	nodes     int                // how many nodes copies of preds have

	failed    bool // whether there is ErrType
	lacking   bool // whether there is ErrInstance
	ambiguous bool // whether there is ErrAmbiguous
}

func newSolver(p *Program, lists map[*api.Node]*list) *solver {
	return &solver{
		program: p,
		lists:   lists,
		known:   map[string]*scheme{},
		copies:  map[*term][]*term{},
		given:   map[slot]int{},
		unknown: newVariable(atTop - 1),
	}
}

// values adds the names of a group at the top to the program.
func (s *solver) values(declarations ...*api.Node) api.Errno {
	s.open(nil, declarations...)
	if errno := s.solve(); errno != api.OK {
		return errno
	}
	for _, name := range Bound(declarations...) {
		k := s.known[name]
		s.program.known[name] = &scheme{of: k.of, level: atTop, preds: k.within.kept, variables: k.within.variables}
	}
	if s.program.takes != nothing {
		s.explain(nil)
	}
	return api.OK
}

// later leaves something to do, ahead of all else that is left.
func (s *solver) later(do func()) {
	s.left = append(s.left, do)
}

// solve does all that is left to do, and answers the first error that applies.
func (s *solver) solve() api.Errno {
	for len(s.left) > 0 && !s.failed {
		last := len(s.left) - 1
		do := s.left[last]
		s.left = s.left[:last]
		do()
	}
	if s.failed || isEndless(s.made) {
		return api.ErrType
	}
	for _, g := range s.closed {
		s.settle(g)
		if s.failed {
			return api.ErrType
		}
	}
	switch {
	case slices.ContainsFunc(s.bound, (*term).isTooBig):
		return api.ErrType
	case s.lacking:
		return api.ErrInstance
	case s.ambiguous:
		return api.ErrAmbiguous
	}
	return api.OK
}

// fresh is a new variable.
func (s *solver) fresh(g *group) *term {
	v := newVariable(g.level)
	s.made = append(s.made, v)
	return v
}

func (s *solver) unify(a, b *term) {
	if !a.unify(b) {
		s.failed = true
	}
}

// bind gives a name a single type. The names of declarations have one before
// their patterns are looked at.
func (s *solver) bind(name string, t *term) {
	if k := s.known[name]; k != nil {
		s.unify(k.of, t)
		return
	}
	s.known[name] = &scheme{of: t, level: single}
}

// use is the type of a name where it is used in a group, which then requires
// the preds of its scheme.
func (s *solver) use(g *group, name string, u *use) *term {
	t := s.instance(g, u, name)
	if s.program.takes != nothing && (u.known.within != nil || len(u.known.preds) > 0) {
		s.uses = append(s.uses, u)
	}
	return t
}

// instance is the type for a use.
func (s *solver) instance(g *group, u *use, name string) *term {
	k := s.known[name]
	if k == nil {
		k = s.program.known[name]
	}
	u.copier = &copier{from: k.level, to: g.level, made: map[*term]*term{}}
	u.copier.other = func(v *term) *term {
		n := s.fresh(g)
		if k.within != nil {
			s.copies[v] = append(s.copies[v], n)
		}
		return n
	}
	t := u.copier.copy(k.of)
	u.known, u.inside = k, k.level == single
	if len(k.preds) > 0 || k.within != nil && len(u.copier.made) > 0 {
		g.uses = append(g.uses, u)
	}
	return t
}
