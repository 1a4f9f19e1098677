package parse

import "teasel/api"

func (p *parser) module() {
	n := at(api.DMod, p.need("module"))
	n.Name = p.needKind(api.ConTok).Text
	p.build(n, p.items, p.word("where"), p.body, p.end)
}

func (p *parser) end() {
	p.needKind(api.EndTok)
}

// items reads a list of items, or nothing.
func (p *parser) items() {
	if !p.is("(") {
		p.push(api.Node{Kind: api.None})
		return
	}
	p.take()
	if p.is(")") {
		p.plan(p.list(), p.word(")"))
		return
	}
	p.plan(p.list(p.separated(",", p.item)), p.word(")"))
}

func (p *parser) item() {
	if p.isKind(api.ConTok) {
		p.push(named(api.DItem, p.take()))
		return
	}
	p.push(named(api.DItem, p.variable()))
}

// variable is a VAR, or an OP in brackets.
func (p *parser) variable() api.Token {
	return p.nameOf(api.VarTok, api.OpTok)
}

// constructorName is a CON, or a CONOP in brackets.
func (p *parser) constructorName() api.Token {
	return p.nameOf(api.ConTok, api.ConOpTok)
}

// nameOf is a name of the first kind, or one of the second kind in brackets,
// whose position is then that of the opening one.
func (p *parser) nameOf(plain, bracketed int) api.Token {
	if !p.is("(") {
		return p.needKind(plain)
	}
	open := p.take()
	name := p.needKind(bracketed)
	p.need(")")
	name.Line, name.Col = open.Line, open.Col
	return name
}

// body reads the block of a module: a List of imports and one of declarations.
func (p *parser) body() {
	from := len(p.nodes)
	part := func() { p.importOrTop(from) }
	p.plan(p.block(part), func() { p.divide(from) })
}

// importOrTop reads a part of the module's block. Its first part is at the
// place from: behind one that is no import there may be none.
func (p *parser) importOrTop(from int) {
	last := len(p.nodes) - 1
	if p.is("import") && (last < from || p.nodes[last].Kind == api.DImport) {
		p.importPart()
		return
	}
	p.top()
}

func (p *parser) importPart() {
	n := at(api.DImport, p.take())
	n.Name = p.needKind(api.ConTok).Text
	p.build(n, p.items)
}

func (p *parser) divide(from int) {
	first := from
	for first < len(p.nodes) && p.nodes[first].Kind == api.DImport {
		first++
	}
	declarations := api.Node{Kind: api.List, Subs: p.since(first)}
	p.wrap(api.Node{Kind: api.List}, from)
	p.push(declarations)
}

func (p *parser) top() {
	switch {
	case p.is("data"):
		p.data()
	case p.is("class"):
		p.class()
	case p.is("instance"):
		p.instance()
	case p.is("infixl", "infixr", "infix"):
		p.fixity()
	default:
		p.equation()
	}
}

func (p *parser) data() {
	n := at(api.DData, p.take())
	n.Name = p.needKind(api.ConTok).Text
	p.build(n, p.list(p.typeVariables), p.list(p.constructors))
}

func (p *parser) typeVariables() {
	for p.isKind(api.VarTok) {
		p.push(named(api.TVar, p.take()))
	}
}

func (p *parser) constructors() {
	if p.is("=") {
		p.take()
		p.plan(p.separated("|", p.constructor))
	}
}

func (p *parser) constructor() {
	n := named(api.DCon, p.constructorName())
	if p.isBrace("{", 0) {
		p.take()
		p.build(n, p.list(p.separated(",", p.field)), p.endRecord)
		return
	}
	p.build(n, p.list(p.typeAtoms))
}

func (p *parser) field() {
	p.signature(api.DField)
}

func (p *parser) method() {
	p.signature(api.DMethod)
}

// signature reads a variable and its type.
func (p *parser) signature(kind int) {
	p.build(named(kind, p.variable()), p.word("::"), p.typeExp)
}

func (p *parser) class() {
	n := at(api.DClass, p.take())
	n.Name = p.needKind(api.ConTok).Text
	variable := named(api.TVar, p.needKind(api.VarTok))
	p.build(n, func() { p.push(variable) }, p.list(p.where(p.method)))
}

func (p *parser) instance() {
	n := at(api.DInst, p.take())
	from := len(p.nodes)
	n.Name = p.context().Text
	p.head()
	p.plan(p.list(p.where(p.equation)), func() { p.wrap(n, from) })
}

// context reads the preds of an instance as a List, which is empty if there
// is no context, and answers the instance's class.
func (p *parser) context() api.Token {
	from := len(p.nodes)
	if p.is("(") {
		p.bracketedPreds()
	} else {
		class := p.needKind(api.ConTok)
		if !p.isKind(api.VarTok) { // then it was no pred: there is no context
			p.wrap(api.Node{Kind: api.List}, from)
			return class
		}
		p.pred(class)
	}
	p.need("=>")
	p.wrap(api.Node{Kind: api.List}, from)
	return p.needKind(api.ConTok)
}

func (p *parser) bracketedPreds() {
	p.take()
	if p.is(")") {
		p.take()
		return
	}
	p.pred(p.needKind(api.ConTok))
	for p.need(",", ")").Text == "," {
		p.pred(p.needKind(api.ConTok))
	}
}

// pred reads the variable that is of a class.
func (p *parser) pred(class api.Token) {
	n := named(api.DPred, class)
	n.Subs = []api.Node{named(api.TVar, p.needKind(api.VarTok))}
	p.push(n)
}

func (p *parser) fixity() {
	n := named(api.DFix, p.take())
	level := p.peek()
	if level.Kind != api.IntTok || level.N < 0 || level.N > 9 {
		p.refuse()
	}
	p.take()
	n.N = level.N
	p.build(n, p.list(p.separated(",", func() { p.push(p.operator()) })))
}
