package parse

import "teasel/api"

func (p *parser) startsAtom() bool {
	return p.isKind(api.VarTok, api.ConTok, api.IntTok, api.StrTok) || p.is("_", "[", "(")
}

// atoms reads atoms, as many as there are.
func (p *parser) atoms() {
	if p.startsAtom() {
		p.plan(p.atom, p.atoms)
	}
}

// arguments applies the expression that was read last to the atoms behind it.
func (p *parser) arguments() {
	if p.startsAtom() {
		p.plan(p.atom, func() { p.apply(api.EApp) }, p.arguments)
	}
}

func (p *parser) atom() {
	p.plan(p.base, p.records)
}

// records reads records behind the expression that was read last.
func (p *parser) records() {
	if p.isBrace("{", 0) {
		p.plan(p.record, p.records)
	}
}

func (p *parser) record() {
	p.take()
	last := len(p.nodes) - 1
	n := p.nodes[last]
	if n.Kind != api.ECon {
		p.plan(p.separated(",", p.assignment), p.endRecord, func() { p.wrapAtFirst(api.EPut, last) })
		return
	}
	n.Kind = api.EMake
	p.nodes = p.nodes[:last]
	if p.is("}") {
		p.build(n, p.endRecord)
		return
	}
	p.build(n, p.separated(",", p.assignment), p.endRecord)
}

func (p *parser) endRecord() {
	p.needBrace("}", 0)
}

func (p *parser) assignment() {
	p.build(named(api.EField, p.variable()), p.word("="), p.exp)
}

func (p *parser) base() {
	switch {
	case p.isKind(api.VarTok):
		p.variableOrAs()
	case p.isKind(api.ConTok):
		p.push(named(api.ECon, p.take()))
	case p.isKind(api.StrTok):
		p.push(named(api.EStr, p.take()))
	case p.isKind(api.IntTok):
		n := at(api.EInt, p.peek())
		n.N = p.take().N
		p.push(n)
	case p.is("_"):
		p.push(at(api.EWild, p.take()))
	case p.is("["):
		p.listExp()
	default:
		p.bracketed(p.need("("))
	}
}

func (p *parser) variableOrAs() {
	name := p.take()
	if !p.is("@") {
		p.push(named(api.EVar, name))
		return
	}
	p.take()
	p.build(named(api.EAs, name), p.atom)
}

func (p *parser) listExp() {
	n := at(api.EList, p.take())
	if p.is("]") {
		p.build(n, p.word("]"))
		return
	}
	p.build(n, p.separated(",", p.exp), p.word("]"))
}

// bracketed reads what a round bracket opens.
func (p *parser) bracketed(open api.Token) {
	switch {
	case p.is(")", ","):
		n := at(api.ECon, open)
		n.Name = p.tupleName()
		p.push(n)
	case p.startsOperator():
		p.behindOperator(open, p.isKind(api.OpTok, api.ConOpTok))
	default:
		from := len(p.nodes)
		p.plan(p.operand, func() { p.behindOperand(open, from) })
	}
}

// behindOperator reads brackets in which an operator comes first: its name,
// if it is a sign and nothing follows, or a section.
func (p *parser) behindOperator(open api.Token, isSign bool) {
	operator := p.operator()
	if isSign && p.is(")") {
		p.take()
		p.push(nameOfOperator(open, operator))
		return
	}
	p.build(at(api.ERight, open), func() { p.push(operator) }, p.exp, p.word(")"))
}

func nameOfOperator(open api.Token, operator api.Node) api.Node {
	n := at(api.EVar, open)
	n.Name = operator.Name
	if operator.N == 1 {
		n.Kind = api.ECon
	}
	return n
}

// behindOperand goes on with brackets whose first operand is at the place
// from. Only here may an operator be the last thing of an expression.
func (p *parser) behindOperand(open api.Token, from int) {
	if !p.startsOperator() {
		p.sequence(from)
		p.plan(func() { p.components(from, p.exp) }, func() { p.tuple(open, from) })
		return
	}
	operator := p.operator()
	if p.is(")") {
		p.take()
		p.sequence(from)
		p.push(operator)
		p.wrap(at(api.ELeft, open), from)
		return
	}
	p.push(operator)
	p.plan(p.operand, func() { p.behindOperand(open, from) })
}

// tuple makes several expressions from the place from on a tuple; a single
// one is itself.
func (p *parser) tuple(open api.Token, from int) {
	if len(p.nodes) > from+1 {
		p.wrap(at(api.ETup, open), from)
	}
}
