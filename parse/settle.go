package parse

import (
	"cmp"

	"teasel/api"
)

// settler makes clauses of equations, and patterns of the expressions that
// stand where patterns do. Like the parser it keeps on stacks of its own what
// is still to be settled. The nodes are those of the tree, so that no list
// may be made anew once its nodes are on a stack.
type settler struct {
	asTheyStand []*api.Node // neither patterns nor within one
	asPatterns  []*api.Node
	fault       api.Diag // that with the smallest position, if there is one
}

// settle settles the tree of a module as it was read, or leaves with an error.
func settle(tree *api.Node) {
	s := settler{asTheyStand: []*api.Node{tree}}
	for s.step() {
	}
	if s.fault.Number != api.OK {
		fail(s.fault.Number, s.fault.Line, s.fault.Col)
	}
}

// step settles a node; it is false if none is left.
func (s *settler) step() bool {
	if n := pop(&s.asPatterns); n != nil {
		s.pattern(n)
		return true
	}
	if n := pop(&s.asTheyStand); n != nil {
		s.node(n)
		return true
	}
	return false
}

// pop takes the last element of a stack; it is nil if there is none.
func pop(stack *[]*api.Node) *api.Node {
	last := len(*stack) - 1
	if last < 0 {
		return nil
	}
	n := (*stack)[last]
	*stack = (*stack)[:last]
	return n
}

// nodes has nodes settled that are neither patterns nor within one.
func (s *settler) nodes(subs []api.Node) {
	for i := range subs {
		s.asTheyStand = append(s.asTheyStand, &subs[i])
	}
}

// patterns has nodes settled that must be patterns.
func (s *settler) patterns(subs []api.Node) {
	for i := range subs {
		s.asPatterns = append(s.asPatterns, &subs[i])
	}
}

// wrong notes a fault at a node.
func (s *settler) wrong(n api.Node) {
	f := s.fault
	if f.Number == api.OK || cmp.Or(cmp.Compare(n.Line, f.Line), cmp.Compare(n.Col, f.Col)) < 0 {
		s.fault = api.Diag{Line: n.Line, Col: n.Col, Number: api.ErrPattern}
	}
}

// node settles a node that is no pattern.
func (s *settler) node(n *api.Node) {
	switch n.Kind {
	case api.EWild, api.EAs:
		s.wrong(*n)
	case api.ELam, api.DClause:
		s.patterns(n.Subs[0].Subs)
		s.nodes(n.Subs[1:])
	case api.EAlt, api.SGen, api.DPat:
		s.patterns(n.Subs[:1])
		s.nodes(n.Subs[1:])
	case api.EDo:
		s.statements(*n)
	case api.DInst:
		s.instance(n)
	case api.List:
		n.Subs = s.declarations(n.Subs)
		s.nodes(n.Subs)
	default:
		s.nodes(n.Subs)
	}
}

func (s *settler) statements(do api.Node) {
	last := len(do.Subs) - 1
	if last < 0 || do.Subs[last].Kind == api.SGen || do.Subs[last].Kind == api.SLet {
		s.wrong(do)
	}
	s.nodes(do.Subs)
}

func (s *settler) instance(n *api.Node) {
	list := &n.Subs[2]
	list.Subs = s.declarations(list.Subs)
	for _, d := range list.Subs {
		if d.Kind == api.DPat {
			s.wrong(d)
		}
	}
	s.nodes(list.Subs)
}
