package parse

import (
	"strings"

	"teasel/api"
)

// typeExp reads a type.
func (p *parser) typeExp() {
	p.plan(p.typeAtom, p.typeArguments, p.arrow)
}

// arrow goes on with the type that was read last, if it is the argument of a
// function type.
func (p *parser) arrow() {
	if p.is("->") {
		sign := p.take()
		p.plan(p.typeExp, func() { p.functionType(sign) })
	}
}

// functionType makes the last two nodes a function type. It stands where its
// argument does; only its TCon stands at the arrow.
func (p *parser) functionType(sign api.Token) {
	from := len(p.nodes) - 2
	argument, result := p.nodes[from], p.nodes[from+1]
	n := api.Node{Kind: api.TApp, Line: argument.Line, Col: argument.Col}
	n.Subs = []api.Node{named(api.TCon, sign), argument}
	p.nodes = append(p.nodes[:from], n, result)
	p.apply(api.TApp)
}

// apply makes the last two nodes an application.
func (p *parser) apply(kind int) {
	p.wrapAtFirst(kind, len(p.nodes)-2)
}

func (p *parser) startsTypeAtom() bool {
	return p.isKind(api.ConTok, api.VarTok) || p.is("(", "[")
}

// typeAtoms reads types that need no brackets, as many as there are.
func (p *parser) typeAtoms() {
	if p.startsTypeAtom() {
		p.plan(p.typeAtom, p.typeAtoms)
	}
}

// typeArguments applies the type that was read last to those behind it.
func (p *parser) typeArguments() {
	if p.startsTypeAtom() {
		p.plan(p.typeAtom, func() { p.apply(api.TApp) }, p.typeArguments)
	}
}

func (p *parser) typeAtom() {
	switch {
	case p.isKind(api.ConTok):
		p.push(named(api.TCon, p.take()))
	case p.isKind(api.VarTok):
		p.push(named(api.TVar, p.take()))
	case p.is("["):
		p.listType()
	default:
		p.bracketedType()
	}
}

func (p *parser) listType() {
	p.push(listCon(p.take()))
	if p.is("]") {
		p.take()
		return
	}
	p.plan(p.typeExp, p.word("]"), func() { p.apply(api.TApp) })
}

func listCon(open api.Token) api.Node {
	n := at(api.TCon, open)
	n.Name = "[]"
	return n
}

func (p *parser) bracketedType() {
	open := p.need("(")
	if p.is(")", ",", "->") {
		p.push(p.typeName(open))
		return
	}
	from := len(p.nodes)
	p.plan(p.typeExp, func() { p.components(from, p.typeExp) }, func() { p.tupleType(open, from) })
}

// typeName is a type's name that is in brackets or consists of them, of which
// the first one has been taken.
func (p *parser) typeName(open api.Token) api.Node {
	n := at(api.TCon, open)
	if p.is("->") {
		n.Name = p.take().Text
		p.need(")")
		return n
	}
	n.Name = p.tupleName()
	return n
}

// tupleName is the name of a tuple's constructor, or of the unit, whose first
// bracket has been taken.
func (p *parser) tupleName() string {
	commas := 0
	for commas < 2 && p.is(",") {
		p.take()
		commas++
	}
	p.need(")")
	return nameOfTuple(commas)
}

func nameOfTuple(commas int) string {
	return "(" + strings.Repeat(",", commas) + ")"
}

// components reads the rest of brackets in which parts stand, of which the
// first one is at the place from: three at most.
func (p *parser) components(from int, part func()) {
	if p.is(",") && len(p.nodes)-from < 3 {
		p.take()
		p.plan(part, func() { p.components(from, part) })
		return
	}
	p.need(")")
}

// tupleType makes several types from the place from on a tuple's type.
func (p *parser) tupleType(open api.Token, from int) {
	if len(p.nodes) == from+1 {
		return
	}
	parts := p.since(from)
	n := at(api.TCon, open)
	n.Name = nameOfTuple(len(parts) - 1)
	p.push(n)
	for _, part := range parts {
		p.push(part)
		p.apply(api.TApp)
	}
}

// head reads the type of an instance.
func (p *parser) head() {
	switch {
	case p.is("["):
		p.push(listCon(p.take()))
		if p.isKind(api.VarTok) {
			p.argumentOfHead()
		}
		p.need("]")
	case p.is("("):
		p.bracketedHead(p.take())
	default:
		p.push(named(api.TCon, p.needKind(api.ConTok)))
	}
}

// argumentOfHead applies the type that was read last to a variable.
func (p *parser) argumentOfHead() {
	p.typeVariable()
	p.apply(api.TApp)
}

func (p *parser) typeVariable() {
	p.push(named(api.TVar, p.needKind(api.VarTok)))
}

func (p *parser) bracketedHead(open api.Token) {
	switch {
	case p.isKind(api.ConTok):
		p.push(named(api.TCon, p.take()))
		for p.isKind(api.VarTok) {
			p.argumentOfHead()
		}
		p.need(")")
	case p.isKind(api.VarTok):
		p.headOfVariables(open)
	default:
		p.push(p.typeName(open))
	}
}

// headOfVariables reads a function type, or that of a tuple, of variables.
func (p *parser) headOfVariables(open api.Token) {
	from := len(p.nodes)
	p.typeVariable()
	sign := p.need("->", ",")
	p.typeVariable()
	if sign.Text == "->" {
		p.need(")")
		p.functionType(sign)
		return
	}
	if p.is(",") {
		p.take()
		p.typeVariable()
	}
	p.need(")")
	p.tupleType(open, from)
}
