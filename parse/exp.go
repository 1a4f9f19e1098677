package parse

import "teasel/api"

// equation reads an equation as a DPat, whatever its left side is.
func (p *parser) equation() {
	p.sides(api.DPat, "=")
}

func (p *parser) alternative() {
	p.sides(api.EAlt, "->")
}

// sides reads an expression and a right side with that sign.
func (p *parser) sides(kind int, sign string) {
	from := len(p.nodes)
	p.plan(p.exp, func() { p.rightSide(sign) }, func() { p.wrapAtFirst(kind, from) })
}

func (p *parser) rightSide(sign string) {
	if !p.is(sign, "|") {
		p.refuse()
	}
	guards := func() { p.guards(sign) }
	p.build(at(api.DRhs, p.peek()), p.list(guards), p.list(p.where(p.equation)))
}

func (p *parser) guards(sign string) {
	if p.is("|") {
		p.guard(sign)
		return
	}
	nothing := func() { p.push(api.Node{Kind: api.None}) }
	p.build(at(api.DGuard, p.take()), nothing, p.exp)
}

// guard reads a guard with a condition, and all others behind it.
func (p *parser) guard(sign string) {
	if p.is("|") {
		p.plan(func() { p.guard(sign) })
		p.build(at(api.DGuard, p.take()), p.exp, p.word(sign), p.exp)
	}
}

// exp reads operands with operators between them.
func (p *parser) exp() {
	from := len(p.nodes)
	p.plan(p.operand, func() { p.operators(from) })
}

// operators goes on with an expression whose first operand is at the place
// from.
func (p *parser) operators(from int) {
	if !p.startsOperator() {
		p.sequence(from)
		return
	}
	p.push(p.operator())
	p.plan(p.operand, func() { p.operators(from) })
}

// sequence makes several operands and operators from the place from on one
// node; a single operand is itself.
func (p *parser) sequence(from int) {
	if len(p.nodes) > from+1 {
		p.wrapAtFirst(api.EOps, from)
	}
}

func (p *parser) startsOperator() bool {
	return p.isKind(api.OpTok, api.ConOpTok) || p.is("`")
}

func (p *parser) operator() api.Node {
	if p.isKind(api.OpTok, api.ConOpTok) {
		return operatorOf(p.take())
	}
	quote := p.need("`")
	name := p.needKind(api.VarTok, api.ConTok)
	p.need("`")
	name.Line, name.Col = quote.Line, quote.Col
	return operatorOf(name)
}

func operatorOf(name api.Token) api.Node {
	n := named(api.EOp, name)
	if name.Kind == api.ConOpTok || name.Kind == api.ConTok {
		n.N = 1
	}
	return n
}

func (p *parser) operand() {
	switch {
	case p.is(`\`):
		p.build(at(api.ELam, p.take()), p.list(p.atom, p.atoms), p.word("->"), p.exp)
	case p.is("let"):
		p.build(at(api.ELet, p.take()), p.list(p.block(p.equation)), p.word("in"), p.exp)
	case p.is("if"):
		p.build(at(api.EIf, p.take()), p.exp, p.word("then"), p.exp, p.word("else"), p.exp)
	case p.is("case"):
		p.build(at(api.ECase, p.take()), p.exp, p.word("of"), p.block(p.alternative))
	case p.is("do"):
		p.build(at(api.EDo, p.take()), p.block(p.statement))
	default:
		p.plan(p.atom, p.arguments)
	}
}

func (p *parser) statement() {
	from := len(p.nodes)
	if p.is("let") {
		let := p.take()
		p.plan(p.list(p.block(p.equation)), func() { p.behindLet(let, from) })
		return
	}
	p.plan(p.exp, func() { p.generator(from) })
}

// behindLet goes on with a statement whose first word let was, and whose
// declarations are at the place from.
func (p *parser) behindLet(let api.Token, from int) {
	if !p.is("in") {
		p.wrap(at(api.SLet, let), from)
		return
	}
	p.take()
	p.plan(p.exp, func() { p.wrap(at(api.ELet, let), from) }, func() { p.generator(from) })
}

// generator goes on with a statement whose expression is at the place from.
func (p *parser) generator(from int) {
	if p.is("<-") {
		p.take()
		p.plan(p.exp, func() { p.wrapAtFirst(api.SGen, from) })
	}
}
