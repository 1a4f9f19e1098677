package kinds

import "teasel/api"

// solver looks for kinds that satisfy the constraints of owners in one module.
// The kinds that it sets are its own, so that a solver which finds none leaves
// nothing behind.
type solver struct {
	before map[string]*kind // the settled kinds of Prim and of earlier modules
	known  map[string]*kind // those of the module's owners, and of the earlier ones that it uses
	made   []*kind          // all that the solver has made
	star   *kind
}

func newSolver(before map[string]*kind) *solver {
	return &solver{before: before, known: map[string]*kind{}, star: &kind{shape: star}}
}

func (s *solver) newOpen() *kind {
	k := &kind{}
	s.made = append(s.made, k)
	return k
}

func (s *solver) newArrow(from, to *kind) *kind {
	k := &kind{shape: arrow, from: from, to: to}
	s.made = append(s.made, k)
	return k
}

// copyOf is a settled kind as one of the solver's own.
func (s *solver) copyOf(k *kind) *kind {
	if k.shape == star {
		return s.star
	}
	return s.newArrow(s.copyOf(k.from), s.copyOf(k.to))
}

// declare gives an owner the kind that follows from the number of its
// variables.
func (s *solver) declare(d api.Node) {
	if d.Kind == api.DClass {
		s.known[d.Name] = s.newOpen()
		return
	}
	k := s.star
	for range d.Subs[0].Subs {
		k = s.newArrow(s.newOpen(), k)
	}
	s.known[d.Name] = k
}

// constrain adds the constraints of an owner.
func (s *solver) constrain(d api.Node) error {
	if d.Kind == api.DClass {
		return s.class(d)
	}
	return s.data(d)
}

func (s *solver) data(d api.Node) error {
	variables := map[string]*kind{}
	k := s.known[d.Name]
	for _, v := range d.Subs[0].Subs {
		variables[v.Name] = k.from
		k = k.to
	}
	kindOf := func(variable string) *kind { return variables[variable] }
	for _, con := range d.Subs[1].Subs {
		for _, part := range con.Subs[0].Subs {
			if part.Kind == api.DField {
				part = part.Subs[0]
			}
			if err := s.holdStar(part, kindOf); err != nil {
				return err
			}
		}
	}
	return nil
}

func (s *solver) class(d api.Node) error {
	for _, method := range d.Subs[1].Subs {
		if err := s.method(d, method.Subs[0]); err != nil {
			return err
		}
	}
	return nil
}

// method adds the constraints of the type of a DMethod. All its variables but
// that of the class are its own.
func (s *solver) method(class, signature api.Node) error {
	uses := 0
	variables := map[string]*kind{}
	kindOf := func(variable string) *kind {
		if variable == class.Subs[0].Name {
			uses++
			return s.known[class.Name]
		}
		if variables[variable] == nil {
			variables[variable] = s.newOpen()
		}
		return variables[variable]
	}
	if err := s.holdStar(signature, kindOf); err != nil {
		return err
	}
	if uses == 0 {
		return errUnused
	}
	return nil
}

// holdStar adds the constraints of a type that has the kind *.
func (s *solver) holdStar(n api.Node, variable func(string) *kind) error {
	k, err := s.typeKind(n, variable)
	if err != nil {
		return err
	}
	return unify(k, s.star)
}

// step is a type whose kind is to be found: that of a TApp, once those of its
// parts are.
type step struct {
	node  api.Node
	parts bool // whether they are found
}

// typeKind is the kind of a type. What is left of it is kept on a stack: types
// may be too deep for calls within calls.
func (s *solver) typeKind(root api.Node, variable func(string) *kind) (*kind, error) {
	var found []*kind
	left := []step{{node: root}}
	for len(left) > 0 {
		last := left[len(left)-1]
		left = left[:len(left)-1]
		n := last.node
		switch {
		case last.parts:
			from := len(found) - 2
			k, err := s.apply(found[from], found[from+1])
			if err != nil {
				return nil, err
			}
			found = append(found[:from], k)
		case n.Kind == api.TApp:
			left = append(left, step{node: n, parts: true}, step{node: n.Subs[1]}, step{node: n.Subs[0]})
		case n.Kind == api.TVar:
			found = append(found, variable(n.Name))
		default:
			found = append(found, s.conKind(n.Name))
		}
	}
	return found[0], nil
}

// apply is the kind of a type that is applied to an argument.
func (s *solver) apply(function, argument *kind) (*kind, error) {
	function = function.find()
	switch function.shape {
	case star:
		return nil, errClash
	case open:
		result := s.newOpen()
		function.same = s.newArrow(argument, result)
		return result, nil
	}
	return function.to, unify(function.from, argument)
}

// conKind is the kind of a TCon.
func (s *solver) conKind(name string) *kind {
	k, found := s.known[name]
	if !found {
		k = s.copyOf(s.before[name])
		s.known[name] = k
	}
	return k
}
