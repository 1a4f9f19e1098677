package parse

import "teasel/api"

// pattern makes a pattern of an expression, or notes what is wrong with it.
// What is within an expression that cannot be one is not looked at.
func (s *settler) pattern(n *api.Node) {
	kind := patternKind(n.Kind)
	if kind == api.None {
		s.wrong(*n)
		return
	}
	switch n.Kind {
	case api.EApp:
		s.application(n)
	case api.EOps:
		s.sequence(n.Subs)
	case api.EMake:
		for _, field := range n.Subs {
			s.patterns(field.Subs)
		}
	default:
		s.patterns(n.Subs)
	}
	n.Kind = kind
}

// patternKind is the kind of the pattern that an expression of a kind becomes.
func patternKind(kind int) int {
	switch kind {
	case api.EVar:
		return api.PVar
	case api.EWild:
		return api.PWild
	case api.EInt:
		return api.PInt
	case api.EStr:
		return api.PStr
	case api.ECon, api.EApp:
		return api.PCon
	case api.EOps:
		return api.POps
	case api.ETup:
		return api.PTup
	case api.EList:
		return api.PList
	case api.EAs:
		return api.PAs
	case api.EMake:
		return api.PMake
	}
	return api.None
}

// application gives a node the constructor and the arguments of EApps.
func (s *settler) application(n *api.Node) {
	head, arguments := spine(*n)
	if head.Kind != api.ECon {
		s.wrong(head)
	}
	n.Name, n.Subs = head.Name, arguments
	s.patterns(arguments)
}

func (s *settler) sequence(subs []api.Node) {
	for i := range subs {
		if i%2 == 0 {
			s.patterns(subs[i : i+1])
		} else if isFunctionOperator(subs[i]) {
			s.wrong(subs[i])
		}
	}
}
