package parse

import "teasel/api"

// declaration is for what binds names: a function or a pattern.
func (c *checker) declaration(n api.Node) bool {
	if n.Kind != api.DPat {
		return c.function(n)
	}
	return hasNothing(n) && len(n.Subs) == 2 && n.Subs[0].Kind != api.PVar &&
		c.all(c.pattern, n.Subs[0]) && c.rightSide(n.Subs[1])
}

// function is for a DFun: if it has several clauses, all have as many
// patterns, and at least one.
func (c *checker) function(n api.Node) bool {
	if n.Kind != api.DFun || !hasName(n, isVarOrOp) || len(n.Subs) == 0 {
		return false
	}
	if len(n.Subs) == 1 {
		return c.clause(n.Subs[0])
	}
	first := n.Subs[0]
	likeFirst := func(n api.Node) bool { return c.clause(n) && patternCount(n) == patternCount(first) }
	return hasPatterns(n) && c.all(likeFirst, n.Subs...)
}

func (c *checker) clause(n api.Node) bool {
	return n.Kind == api.DClause && hasNothing(n) && len(n.Subs) == 2 &&
		c.list(n.Subs[0], 0, c.pattern) && c.rightSide(n.Subs[1])
}

func (c *checker) rightSide(n api.Node) bool {
	if n.Kind != api.DRhs || !hasNothing(n) || len(n.Subs) != 2 {
		return false
	}
	guard := c.guard
	if len(n.Subs[0].Subs) == 1 {
		guard = c.onlyGuard
	}
	return c.list(n.Subs[0], 1, guard) && c.declarations(n.Subs[1], c.declaration)
}

func (c *checker) guard(n api.Node) bool {
	return n.Kind == api.DGuard && hasNothing(n) && len(n.Subs) == 2 && c.all(c.exp, n.Subs...)
}

// onlyGuard is for a guard that is the only one: it may have no condition.
func (c *checker) onlyGuard(n api.Node) bool {
	if n.Kind == api.DGuard && len(n.Subs) == 2 && isNone(n.Subs[0]) {
		return hasNothing(n) && c.all(c.exp, n.Subs[1])
	}
	return c.guard(n)
}

func (c *checker) exp(n api.Node) bool {
	switch n.Kind {
	case api.EVar:
		return isLeaf(n, isVarOrOp)
	case api.ECon:
		return isLeaf(n, isValueName)
	case api.EInt:
		return isNumber(n)
	case api.EStr:
		return n.N == 0 && len(n.Subs) == 0
	case api.EMake:
		return hasName(n, isValueName) && c.all(c.assignment, n.Subs...)
	}
	return hasNothing(n) && c.compound(n)
}

func isNumber(n api.Node) bool {
	return n.Name == "" && n.N >= 0 && len(n.Subs) == 0
}

// compound is for the expressions that have parts alone.
func (c *checker) compound(n api.Node) bool {
	switch n.Kind {
	case api.EApp:
		return len(n.Subs) == 2 && c.all(c.exp, n.Subs...)
	case api.EIf:
		return len(n.Subs) == 3 && c.all(c.exp, n.Subs...)
	case api.ETup:
		return isTuple(n) && c.all(c.exp, n.Subs...)
	case api.EList:
		return c.all(c.exp, n.Subs...)
	case api.EOps:
		return c.sequence(n.Subs, c.exp, isOperator)
	case api.ELeft:
		return len(n.Subs) == 2 && c.all(c.exp, n.Subs[0]) && isOperator(n.Subs[1])
	case api.ERight:
		return len(n.Subs) == 2 && isOperator(n.Subs[0]) && c.all(c.exp, n.Subs[1])
	case api.ELam:
		return len(n.Subs) == 2 && c.list(n.Subs[0], 1, c.pattern) && c.all(c.exp, n.Subs[1])
	case api.ELet:
		return len(n.Subs) == 2 && c.declarations(n.Subs[0], c.declaration) && c.all(c.exp, n.Subs[1])
	case api.ECase:
		return len(n.Subs) > 0 && c.all(c.exp, n.Subs[0]) && c.all(c.alternative, n.Subs[1:]...)
	case api.EDo:
		last := len(n.Subs) - 1
		return last >= 0 && c.all(c.statement, n.Subs[:last]...) && c.all(c.exp, n.Subs[last])
	case api.EPut:
		return len(n.Subs) > 1 && n.Subs[0].Kind != api.ECon &&
			c.all(c.exp, n.Subs[0]) && c.all(c.assignment, n.Subs[1:]...)
	}
	return false
}

func isTuple(n api.Node) bool {
	return len(n.Subs) == 2 || len(n.Subs) == 3
}

// sequence is for operands of a sort with operators of a sort between them.
func (c *checker) sequence(subs []api.Node, isOperand, isBetween func(api.Node) bool) bool {
	place := 0
	isNext := func(n api.Node) bool {
		place++
		if place%2 == 0 {
			return isBetween(n)
		}
		return isOperand(n)
	}
	return len(subs) >= 3 && len(subs)%2 == 1 && c.all(isNext, subs...)
}

func (c *checker) assignment(n api.Node) bool {
	return n.Kind == api.EField && hasName(n, isVarOrOp) && len(n.Subs) == 1 && c.all(c.exp, n.Subs...)
}

func (c *checker) alternative(n api.Node) bool {
	return n.Kind == api.EAlt && hasNothing(n) && len(n.Subs) == 2 &&
		c.all(c.pattern, n.Subs[0]) && c.rightSide(n.Subs[1])
}

func (c *checker) statement(n api.Node) bool {
	switch n.Kind {
	case api.SGen:
		return hasNothing(n) && len(n.Subs) == 2 && c.all(c.pattern, n.Subs[0]) && c.all(c.exp, n.Subs[1])
	case api.SLet:
		return hasNothing(n) && len(n.Subs) == 1 && c.declarations(n.Subs[0], c.declaration)
	}
	return c.exp(n)
}

func (c *checker) pattern(n api.Node) bool {
	switch n.Kind {
	case api.PVar:
		return isLeaf(n, isVarOrOp)
	case api.PWild:
		return hasNothing(n) && len(n.Subs) == 0
	case api.PInt:
		return isNumber(n)
	case api.PStr:
		return n.N == 0 && len(n.Subs) == 0
	case api.PCon:
		return hasName(n, isValueName) && c.all(c.pattern, n.Subs...)
	case api.POps:
		return hasNothing(n) && c.sequence(n.Subs, c.pattern, isConOperator)
	case api.PTup:
		return hasNothing(n) && isTuple(n) && c.all(c.pattern, n.Subs...)
	case api.PList:
		return hasNothing(n) && c.all(c.pattern, n.Subs...)
	case api.PAs:
		return hasName(n, isVar) && len(n.Subs) == 1 && c.all(c.pattern, n.Subs...)
	case api.PMake:
		return hasName(n, isValueName) && c.all(c.match, n.Subs...)
	}
	return false
}

func isConOperator(n api.Node) bool {
	return isOperator(n) && n.N == 1
}

// match is for a field of a pattern.
func (c *checker) match(n api.Node) bool {
	return n.Kind == api.EField && hasName(n, isVarOrOp) && len(n.Subs) == 1 && c.all(c.pattern, n.Subs...)
}
