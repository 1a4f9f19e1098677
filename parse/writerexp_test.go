package parse_test

import "teasel/api"

// Where expressions may stand: the lower the level, the more may without
// brackets.
const (
	anyExp    = iota
	operand   // no operators
	closed    // no operand that goes on as far as it can
	function  // what is applied
	atom      // an argument
	beforePut // ahead of the braces of a record
)

func levelOf(n api.Node) int {
	switch n.Kind {
	case api.EOps:
		return anyExp
	case api.ELam, api.ELet, api.EIf:
		return operand
	case api.ECase, api.EDo:
		return closed
	case api.EApp:
		return function
	case api.EAs:
		return atom
	}
	return beforePut
}

func (w *writer) anyExp(n api.Node) api.Node {
	return w.exp(n, anyExp)
}

// exp writes an expression, in brackets if it needs them there, or chooses
// to have some.
func (w *writer) exp(n api.Node, level int) api.Node {
	if levelOf(n) >= level && !w.choose() {
		return w.bare(n)
	}
	w.word("(")
	n = w.exp(n, anyExp)
	w.word(")")
	return n
}

func (w *writer) bare(n api.Node) api.Node {
	switch n.Kind {
	case api.EVar:
		return w.named(n)
	case api.ECon:
		return w.constructorName(n)
	case api.EInt:
		t := w.emit(api.Token{Kind: api.IntTok, N: n.N})
		return placed(n, t.Line, t.Col)
	case api.EStr:
		t := w.emit(api.Token{Kind: api.StrTok, Text: n.Name})
		return placed(n, t.Line, t.Col)
	case api.EWild:
		return w.marked(n, "_")
	case api.EAs:
		t := w.emit(api.Token{Kind: api.VarTok, Text: n.Name})
		w.word("@")
		n.Subs = []api.Node{w.exp(n.Subs[0], atom)}
		return placed(n, t.Line, t.Col)
	case api.EApp:
		f := w.exp(n.Subs[0], function)
		n.Subs = []api.Node{f, w.exp(n.Subs[1], atom)}
		return placed(n, f.Line, f.Col)
	case api.EOps:
		return w.operands(n, operand)
	case api.EMake, api.EPut:
		return w.record(n)
	case api.EList, api.ETup, api.ELeft, api.ERight:
		return w.bracketed(n)
	}
	return w.worded(n)
}

func (w *writer) constructorName(n api.Node) api.Node {
	if n.Name == "" || isGreat(n.Name) || isSymbolic(n.Name) {
		return w.named(n)
	}
	return w.spelled(n)
}

func (w *writer) operator(n api.Node) api.Node {
	if n.Kind != api.EOp {
		panic("no operator")
	}
	if isSymbolic(n.Name) {
		t := w.emit(tokenOf(n.Name))
		return placed(n, t.Line, t.Col)
	}
	n = w.marked(n, "`")
	w.emit(tokenOf(n.Name))
	w.word("`")
	return n
}

// operands writes operands, of which the last one has a level of its own.
func (w *writer) operands(n api.Node, last int) api.Node {
	var out []api.Node
	for i, x := range n.Subs {
		switch {
		case i%2 == 1:
			x = w.operator(x)
		case i == len(n.Subs)-1:
			x = w.exp(x, last)
		default:
			x = w.exp(x, closed)
		}
		out = append(out, x)
	}
	n.Subs = out
	return placed(n, out[0].Line, out[0].Col)
}

func (w *writer) record(n api.Node) api.Node {
	var first api.Node
	var before []api.Node
	fields := n.Subs
	if n.Kind == api.EMake {
		first = w.exp(api.Node{Kind: api.ECon, Name: n.Name}, beforePut)
	} else {
		first = w.exp(n.Subs[0], beforePut)
		before, fields = []api.Node{first}, n.Subs[1:]
	}
	w.brace("{", 0)
	n.Subs = append(before, w.all(fields, ",", w.field)...)
	w.brace("}", 0)
	return placed(n, first.Line, first.Col)
}

func (w *writer) field(n api.Node) api.Node {
	n = w.named(n)
	w.word("=")
	n.Subs = []api.Node{w.exp(n.Subs[0], anyExp)}
	return n
}

func (w *writer) bracketed(n api.Node) api.Node {
	shut := ")"
	if n.Kind == api.EList {
		n = w.marked(n, "[")
		shut = "]"
	} else {
		n = w.marked(n, "(")
	}
	switch n.Kind {
	case api.EList, api.ETup:
		n.Subs = w.all(n.Subs, ",", w.anyExp)
	case api.ELeft:
		n.Subs = []api.Node{w.leftOperand(n.Subs[0]), w.operator(n.Subs[1])}
	case api.ERight:
		op := w.operator(n.Subs[0])
		n.Subs = []api.Node{op, w.exp(n.Subs[1], anyExp)}
	}
	w.word(shut)
	return n
}

// leftOperand writes what stands ahead of an operator and a bracket.
func (w *writer) leftOperand(n api.Node) api.Node {
	if n.Kind == api.EOps && w.choose() {
		return w.operands(n, closed)
	}
	return w.exp(n, closed)
}

// worded writes an expression that begins with a word or a backslash.
func (w *writer) worded(n api.Node) api.Node {
	subs := n.Subs
	switch n.Kind {
	case api.ELam:
		n = w.marked(n, `\`)
		patterns := w.listed(subs[0], func(subs []api.Node) []api.Node {
			return w.all(subs, "", func(x api.Node) api.Node { return w.exp(x, atom) })
		})
		w.word("->")
		n.Subs = []api.Node{patterns, w.anyExp(subs[1])}
	case api.ELet:
		n = w.marked(n, "let")
		decls := w.listedBlock(subs[0], w.equation)
		w.word("in")
		n.Subs = []api.Node{decls, w.anyExp(subs[1])}
	case api.EIf:
		n = w.marked(n, "if")
		a := w.anyExp(subs[0])
		w.word("then")
		b := w.anyExp(subs[1])
		w.word("else")
		n.Subs = []api.Node{a, b, w.anyExp(subs[2])}
	case api.ECase:
		n = w.marked(n, "case")
		a := w.anyExp(subs[0])
		w.word("of")
		n.Subs = append([]api.Node{a}, w.block(subs[1:], w.alternative)...)
	case api.EDo:
		n = w.marked(n, "do")
		n.Subs = w.block(subs, w.statement)
	default:
		panic("no expression")
	}
	return n
}

func (w *writer) statement(n api.Node) api.Node {
	switch n.Kind {
	case api.SLet:
		n = w.marked(n, "let")
		n.Subs = []api.Node{w.listedBlock(n.Subs[0], w.equation)}
		return n
	case api.SGen:
		a := w.anyExp(n.Subs[0])
		w.word("<-")
		n.Subs = []api.Node{a, w.anyExp(n.Subs[1])}
		return placed(n, a.Line, a.Col)
	}
	return w.anyExp(n)
}

func (w *writer) equation(n api.Node) api.Node {
	return w.sides(n, api.DPat, "=")
}

func (w *writer) alternative(n api.Node) api.Node {
	return w.sides(n, api.EAlt, "->")
}

func (w *writer) sides(n api.Node, kind int, sign string) api.Node {
	if n.Kind != kind {
		panic("not what may stand there")
	}
	left := w.anyExp(n.Subs[0])
	n.Subs = []api.Node{left, w.rightSide(n.Subs[1], sign)}
	return placed(n, left.Line, left.Col)
}

func (w *writer) rightSide(n api.Node, sign string) api.Node {
	guards := n.Subs[0]
	plain := len(guards.Subs) == 1 && guards.Subs[0].Subs[0].Kind == api.None
	guards.Subs = w.all(guards.Subs, "", func(g api.Node) api.Node { return w.guard(g, sign, plain) })
	n = placed(n, guards.Subs[0].Line, guards.Subs[0].Col)
	n.Subs = []api.Node{guards, w.where(n.Subs[1], w.equation)}
	return n
}

func (w *writer) guard(n api.Node, sign string, plain bool) api.Node {
	condition := n.Subs[0]
	if plain {
		n = w.marked(n, sign)
	} else {
		n = w.marked(n, "|")
		condition = w.anyExp(condition)
		w.word(sign)
	}
	n.Subs = []api.Node{condition, w.anyExp(n.Subs[1])}
	return n
}
