package fix

import "teasel/api"

// waiting is an operator, with its left operand, whose right operand may not
// have come to its end.
type waiting struct {
	fixity
	op   api.Node
	left api.Node
}

// applications is a sequence of operands and the operators between them, each
// operator applied to its operands. It reports the operators that clash.
func (m *mender) applications(sequence []api.Node, apply func(op, left, right api.Node) api.Node) api.Node {
	var stack []waiting
	var seen levels
	operand := sequence[0]

	applyBefore := func(next fixity) {
		for len(stack) > 0 && stack[len(stack)-1].before(next) {
			last := stack[len(stack)-1]
			stack = stack[:len(stack)-1]
			operand = apply(last.op, last.left, operand)
		}
	}
	wait := func(op, behind api.Node) {
		next := m.known.of(op)
		if seen.clashes(next) {
			m.found.add(api.ErrMix, op)
		}
		applyBefore(next)
		stack = append(stack, waiting{fixity: next, op: op, left: operand})
		operand = behind
	}

	for i := 1; i < len(sequence); i += 2 {
		wait(sequence[i], sequence[i+1])
	}
	end := fixity{level: -1}
	applyBefore(end)
	return operand
}

// applyFunction is for the operators of expressions.
func applyFunction(op, left, right api.Node) api.Node {
	return at(left, api.EApp, "", at(left, api.EApp, "", function(op), left), right)
}

// applyPattern is for those of patterns, which are all constructors.
func applyPattern(op, left, right api.Node) api.Node {
	return at(left, api.PCon, op.Name, left, right)
}

// function is an operator as an expression.
func function(op api.Node) api.Node {
	if op.N == 1 {
		return at(op, api.ECon, op.Name)
	}
	return at(op, api.EVar, op.Name)
}

// at is a new node with the position of another one.
func at(place api.Node, kind int, name string, subs ...api.Node) api.Node {
	return api.Node{Kind: kind, Name: name, Line: place.Line, Col: place.Col, Subs: subs}
}
