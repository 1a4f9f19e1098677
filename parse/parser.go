package parse

import "teasel/api"

// parser reads a module. It keeps what is still to be read on a stack of its
// own: what is not in brackets may be nested as deep as there are tokens, too
// deep for calls within calls.
type parser struct {
	reader
	todo  []func()   // the steps that are still to be done, the next one last
	nodes []api.Node // what has been read and is not part of a node yet
}

// read is the tree of a module in which patterns and the left sides of
// equations are still expressions, and each equation is a DPat.
func read(ts []api.Token) api.Node {
	p := parser{reader: newReader(ts)}
	p.plan(p.module)
	for len(p.todo) > 0 {
		last := len(p.todo) - 1
		step := p.todo[last]
		p.todo = p.todo[:last]
		step()
	}
	return p.nodes[0]
}

// plan has steps done in this order, ahead of all that is planned already.
func (p *parser) plan(steps ...func()) {
	for i := len(steps) - 1; i >= 0; i-- {
		p.todo = append(p.todo, steps[i])
	}
}

func (p *parser) push(n api.Node) {
	p.nodes = append(p.nodes, n)
}

// since takes the nodes from the place from on. They get memory of their own.
func (p *parser) since(from int) []api.Node {
	subs := append([]api.Node(nil), p.nodes[from:]...)
	p.nodes = p.nodes[:from]
	return subs
}

// wrap makes the nodes from the place from on the parts of n.
func (p *parser) wrap(n api.Node, from int) {
	n.Subs = p.since(from)
	p.push(n)
}

// wrapAtFirst makes the nodes from the place from on the parts of a node that
// has the position of the first one.
func (p *parser) wrapAtFirst(kind, from int) {
	first := p.nodes[from]
	p.wrap(api.Node{Kind: kind, Line: first.Line, Col: first.Col}, from)
}

// build plans steps; what they read are the parts of n.
func (p *parser) build(n api.Node, steps ...func()) {
	from := len(p.nodes)
	p.plan(func() { p.wrap(n, from) })
	p.plan(steps...)
}

// The following answer steps.

// list is to make a List of what steps read.
func (p *parser) list(steps ...func()) func() {
	return func() { p.build(api.Node{Kind: api.List}, steps...) }
}

// word is to pass over that word or sign.
func (p *parser) word(text string) func() {
	return func() { p.need(text) }
}

// separated is to read a part at least, and others behind signs.
func (p *parser) separated(sign string, part func()) func() {
	var more func()
	more = func() {
		if p.is(sign) {
			p.take()
			p.plan(part, more)
		}
	}
	return func() { p.plan(part, more) }
}

// block is to read a block of such parts.
func (p *parser) block(part func()) func() {
	return func() {
		brace := p.need("{")
		p.parts(brace.N, part)
	}
}

// parts reads the rest of a block whose braces have that N, from where a part
// may begin.
func (p *parser) parts(n int, part func()) {
	for p.is(";") {
		p.take()
	}
	if p.isBrace("}", n) {
		p.take()
		return
	}
	p.plan(part, func() { p.behindPart(n, part) })
}

func (p *parser) behindPart(n int, part func()) {
	if !p.is(";") && !p.isBrace("}", n) {
		p.refuse()
	}
	p.parts(n, part)
}

// where is to read a block of such parts behind the word, if it is there.
func (p *parser) where(part func()) func() {
	return func() {
		if p.is("where") {
			p.take()
			p.plan(p.block(part))
		}
	}
}

// at is a node that begins with that token.
func at(kind int, t api.Token) api.Node {
	return api.Node{Kind: kind, Line: t.Line, Col: t.Col}
}

// named is a node whose Name is that token's Text.
func named(kind int, t api.Token) api.Node {
	n := at(kind, t)
	n.Name = t.Text
	return n
}
