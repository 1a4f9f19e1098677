package kinds

import (
	"slices"
	"sort"

	"teasel/api"
)

// program is what is known of the modules so far.
type program struct {
	kinds map[string]*kind // those of types and classes, settled, by their qualified names
}

// newProgram knows the types of Prim.
func newProgram() *program {
	p := &program{kinds: map[string]*kind{}}
	p.addPrim(0, "Int", "Bool", "()")
	p.addPrim(1, "IO", "[]")
	p.addPrim(2, "(,)", "->")
	p.addPrim(3, "(,,)")
	return p
}

// addPrim adds types of Prim that take so many arguments, all of them of the
// kind *.
func (p *program) addPrim(arguments int, names ...string) {
	for _, name := range names {
		k := &kind{shape: star}
		for range arguments {
			k = &kind{shape: arrow, from: &kind{shape: star}, to: k}
		}
		p.kinds["Prim."+name] = k
	}
}

// module adds the kinds of a module's owners, which are its DDatas and
// DClasses, and checks its instances. All modules that it imports have been
// added.
func (p *program) module(tree api.Node, owners []api.Node) error {
	s, err := p.solve(owners)
	if err != nil {
		return err
	}
	for _, d := range owners {
		k := s.known[d.Name].find()
		if k.stars > mostStars {
			return faultAt(d, errBig)
		}
		p.kinds[d.Name] = k.settled()
	}
	for _, d := range tree.Subs[2].Subs {
		if d.Kind != api.DInst {
			continue
		}
		if err := p.instance(d); err != nil {
			return faultAt(d, err)
		}
	}
	return nil
}

// solve is the solution of the constraints of all owners. If there is none, it
// searches for the first owner with which there is none, halving: where a kind
// is a part of itself, the solver knows this of all owners together alone.
func (p *program) solve(owners []api.Node) (*solver, error) {
	s, err := p.attempt(owners, len(owners))
	if err == nil {
		return s, nil
	}
	first := sort.Search(len(owners)-1, func(i int) bool {
		_, err := p.attempt(owners, i+1)
		return err != nil
	})
	_, cause := p.attempt(owners, first+1)
	return nil, faultAt(owners[first], cause)
}

// attempt is the solution of the constraints of the first owners, so many of
// them; of the others only the numbers of variables are considered.
func (p *program) attempt(owners []api.Node, count int) (*solver, error) {
	s := newSolver(p.kinds)
	for _, d := range owners {
		s.declare(d)
	}
	for _, d := range owners[:count] {
		if err := s.constrain(d); err != nil {
			return nil, err
		}
	}
	for _, k := range s.made {
		if err := k.measure(); err != nil {
			return nil, err
		}
	}
	return s, nil
}

// instance is what is wrong with a DInst, if anything is.
func (p *program) instance(d api.Node) error {
	con, arguments := spineOf(d.Subs[1])
	k := p.kinds[con]
	given := map[string]*kind{}
	for _, name := range arguments {
		if k.shape != arrow {
			return errMany
		}
		given[name] = k.from
		k = k.to
	}
	if !alike(k, p.kinds[d.Name]) {
		return errOther
	}
	for _, pred := range d.Subs[0].Subs {
		if !alike(given[pred.Subs[0].Name], p.kinds[pred.Name]) {
			return errOther
		}
	}
	return nil
}

// spineOf is the constructor of the type of a DInst, and the variables that it
// is applied to.
func spineOf(n api.Node) (string, []string) {
	var arguments []string
	for n.Kind == api.TApp {
		arguments = append(arguments, n.Subs[1].Name)
		n = n.Subs[0]
	}
	slices.Reverse(arguments)
	return n.Name, arguments
}
