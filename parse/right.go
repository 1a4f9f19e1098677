package parse

import "teasel/api"

// Right says whether a tree is, but for positions and depth, one that Parse
// answers.
func Right(n api.Node) bool {
	var c checker
	c.all(c.module, n)
	return c.run()
}

// Bounds of what is looked at. A tree beyond them is greater or deeper than
// those that the promises hold for; it may even have no end, since a list can
// be a part of itself.
const (
	mostNodes = 1 << 25
	mostLeft  = 1 << 22
)

// checker looks at a tree, node by node. It keeps on a stack of its own what
// it has not looked at yet: trees may be too deep for calls within calls.
type checker struct {
	left []siblings
	seen int
}

// siblings are nodes that must all be of a sort. They are looked at in order,
// and what they have within them ahead of the next one.
type siblings struct {
	nodes []api.Node
	isOne func(api.Node) bool
}

// all has nodes looked at later on. It is true, so that it can stand among
// what is asked at once.
func (c *checker) all(isOne func(api.Node) bool, nodes ...api.Node) bool {
	if len(nodes) > 0 {
		c.left = append(c.left, siblings{nodes: nodes, isOne: isOne})
	}
	return true
}

// run says whether all that is left is right.
func (c *checker) run() bool {
	for len(c.left) > 0 {
		last := len(c.left) - 1
		next := c.left[last]
		if len(next.nodes) == 1 {
			c.left = c.left[:last]
		} else {
			c.left[last].nodes = next.nodes[1:]
		}
		c.seen++
		if c.seen > mostNodes || len(c.left) > mostLeft || !next.isOne(next.nodes[0]) {
			return false
		}
	}
	return true
}

// The following say whether a node is of a sort, but for its parts, which
// they have looked at later on.

// hasName says whether a node has a Name of that sort and no number.
func hasName(n api.Node, isOne func(string) bool) bool {
	return isOne(n.Name) && n.N == 0
}

// hasNothing says whether a node has neither a Name nor a number.
func hasNothing(n api.Node) bool {
	return n.Name == "" && n.N == 0
}

// isLeaf says whether a node has no parts, but a Name of that sort.
func isLeaf(n api.Node, isOne func(string) bool) bool {
	return hasName(n, isOne) && len(n.Subs) == 0
}

// list is for a List of at least so many nodes of a sort.
func (c *checker) list(n api.Node, least int, isOne func(api.Node) bool) bool {
	return n.Kind == api.List && hasNothing(n) && len(n.Subs) >= least && c.all(isOne, n.Subs...)
}

func isNone(n api.Node) bool {
	return n.Kind == api.None && hasNothing(n) && len(n.Subs) == 0
}

func (c *checker) module(n api.Node) bool {
	return n.Kind == api.DMod && hasName(n, isCon) && len(n.Subs) == 3 &&
		c.items(n.Subs[0]) && c.list(n.Subs[1], 0, c.importPart) && c.declarations(n.Subs[2], c.top)
}

func (c *checker) items(n api.Node) bool {
	return isNone(n) || c.list(n, 0, isItem)
}

func isItem(n api.Node) bool {
	return n.Kind == api.DItem && isLeaf(n, isItemName)
}

func (c *checker) importPart(n api.Node) bool {
	return n.Kind == api.DImport && hasName(n, isCon) && len(n.Subs) == 1 && c.items(n.Subs[0])
}

// declarations is for a List of declarations of a sort, in which clauses that
// belong together are.
func (c *checker) declarations(n api.Node, isOne func(api.Node) bool) bool {
	for i := 1; i < len(n.Subs); i++ {
		before, d := n.Subs[i-1], n.Subs[i]
		if before.Name == d.Name && hasPatterns(before) && hasPatterns(d) {
			return false
		}
	}
	return c.list(n, 0, isOne)
}

// hasPatterns says whether a node is a DFun with patterns. It may be no right
// one.
func hasPatterns(n api.Node) bool {
	return n.Kind == api.DFun && len(n.Subs) > 0 && len(n.Subs[0].Subs) > 0 && len(n.Subs[0].Subs[0].Subs) > 0
}

func (c *checker) top(n api.Node) bool {
	switch n.Kind {
	case api.DData:
		return hasName(n, isCon) && len(n.Subs) == 2 &&
			c.list(n.Subs[0], 0, isTypeVariable) && c.list(n.Subs[1], 0, c.constructor)
	case api.DClass:
		return hasName(n, isCon) && len(n.Subs) == 2 && isTypeVariable(n.Subs[0]) && c.list(n.Subs[1], 0, c.method)
	case api.DInst:
		return hasName(n, isCon) && len(n.Subs) == 3 && c.list(n.Subs[0], 0, isPred) &&
			c.head(n.Subs[1], 0) && c.declarations(n.Subs[2], c.function)
	case api.DFix:
		return isFixity(n.Name) && 0 <= n.N && n.N <= 9 && len(n.Subs) == 1 && c.list(n.Subs[0], 1, isOperator)
	}
	return c.declaration(n)
}

// constructor is for a DCon: its parts are all types, or all fields.
func (c *checker) constructor(n api.Node) bool {
	if n.Kind != api.DCon || !hasName(n, isConOrConOp) || len(n.Subs) != 1 {
		return false
	}
	parts := n.Subs[0]
	if len(parts.Subs) > 0 && parts.Subs[0].Kind == api.DField {
		return c.list(parts, 1, c.field)
	}
	return c.list(parts, 0, c.typeExp)
}

func (c *checker) field(n api.Node) bool {
	return n.Kind == api.DField && c.signature(n)
}

func (c *checker) method(n api.Node) bool {
	return n.Kind == api.DMethod && c.signature(n)
}

func (c *checker) signature(n api.Node) bool {
	return hasName(n, isVarOrOp) && len(n.Subs) == 1 && c.all(c.typeExp, n.Subs...)
}

func isPred(n api.Node) bool {
	return n.Kind == api.DPred && hasName(n, isCon) && len(n.Subs) == 1 && isTypeVariable(n.Subs[0])
}

func isOperator(n api.Node) bool {
	if n.Kind != api.EOp || len(n.Subs) != 0 {
		return false
	}
	return n.N == 0 && isVarOrOp(n.Name) || n.N == 1 && isConOrConOp(n.Name)
}

func isTypeVariable(n api.Node) bool {
	return n.Kind == api.TVar && isLeaf(n, isVar)
}

func (c *checker) typeExp(n api.Node) bool {
	switch n.Kind {
	case api.TVar:
		return isTypeVariable(n)
	case api.TCon:
		return isLeaf(n, isTypeName)
	case api.TApp:
		return hasNothing(n) && len(n.Subs) == 2 && c.all(c.typeExp, n.Subs...)
	}
	return false
}

// head is for the type of an instance, which is applied to so many variables.
func (c *checker) head(n api.Node, arguments int) bool {
	if n.Kind == api.TApp {
		function := func(n api.Node) bool { return c.head(n, arguments+1) }
		return hasNothing(n) && len(n.Subs) == 2 && isTypeVariable(n.Subs[1]) && c.all(function, n.Subs[0])
	}
	return n.Kind == api.TCon && isLeaf(n, isTypeName) && (arguments == 0 || takes(n.Name, arguments))
}

// takes says whether the name of a type may be applied to so many variables
// in the type of an instance.
func takes(name string, arguments int) bool {
	switch name {
	case "[]":
		return arguments == 1
	case "(,)", "->":
		return arguments == 2
	case "(,,)":
		return arguments == 3
	}
	return isCon(name)
}
