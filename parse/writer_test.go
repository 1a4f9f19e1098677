package parse_test

import (
	"strings"

	"teasel/api"
)

// A writer writes a tree as tokens. In such a tree, patterns are expressions,
// as they are read, and each equation is a DPat. It answers the tree with the
// positions that the chapter gives its nodes.
type writer struct {
	tokens []api.Token
	place  func() (int, int) // the position of the next token
	choose func() bool       // whether to take the other one of two ways to write something
}

func (w *writer) emit(t api.Token) api.Token {
	t.Line, t.Col = w.place()
	w.tokens = append(w.tokens, t)
	return t
}

func (w *writer) word(text string) api.Token {
	if text >= "a" && text < "{" {
		return w.emit(api.Token{Kind: api.KeyTok, Text: text})
	}
	return w.emit(api.Token{Kind: api.SignTok, Text: text})
}

func (w *writer) brace(text string, n int) {
	w.emit(api.Token{Kind: api.SignTok, Text: text, N: n})
}

func placed(n api.Node, line, col int) api.Node {
	n.Line, n.Col = line, col
	return n
}

func isSymbolic(text string) bool {
	return text != "" && strings.Contains(`!#$%&*+./<=>?@\^|-:`, text[:1])
}

func isGreat(text string) bool {
	return text != "" && text[0] >= 'A' && text[0] <= 'Z'
}

// tokenOf is a name as a token.
func tokenOf(text string) api.Token {
	kind := api.VarTok
	switch {
	case strings.HasPrefix(text, ":"):
		kind = api.ConOpTok
	case isSymbolic(text):
		kind = api.OpTok
	case isGreat(text):
		kind = api.ConTok
	}
	return api.Token{Kind: kind, Text: text}
}

// named writes a node's name, in brackets if it is symbolic.
func (w *writer) named(n api.Node) api.Node {
	if !isSymbolic(n.Name) {
		t := w.emit(tokenOf(n.Name))
		return placed(n, t.Line, t.Col)
	}
	open := w.word("(")
	w.emit(tokenOf(n.Name))
	w.word(")")
	return placed(n, open.Line, open.Col)
}

// marked writes a word that begins a node.
func (w *writer) marked(n api.Node, text string) api.Node {
	t := w.word(text)
	return placed(n, t.Line, t.Col)
}

// all writes parts with signs between them.
func (w *writer) all(subs []api.Node, sign string, part func(api.Node) api.Node) []api.Node {
	var out []api.Node
	for i, x := range subs {
		if i > 0 && sign != "" {
			w.word(sign)
		}
		out = append(out, part(x))
	}
	return out
}

// block writes parts as a block, with some semicolons more than are needed.
func (w *writer) block(subs []api.Node, part func(api.Node) api.Node) []api.Node {
	n := 0
	if w.choose() {
		n = 1
	}
	w.brace("{", n)
	var out []api.Node
	for i, x := range subs {
		if i > 0 {
			w.word(";")
		}
		if w.choose() {
			w.word(";")
		}
		out = append(out, part(x))
	}
	if w.choose() {
		w.word(";")
	}
	w.brace("}", n)
	return out
}

// listed writes the parts of a List.
func (w *writer) listed(n api.Node, parts func([]api.Node) []api.Node) api.Node {
	if n.Kind != api.List {
		panic("no List")
	}
	n.Subs = parts(n.Subs)
	return n
}

func (w *writer) listedBlock(n api.Node, part func(api.Node) api.Node) api.Node {
	return w.listed(n, func(subs []api.Node) []api.Node { return w.block(subs, part) })
}

// where writes a block behind the word, or nothing if there is nothing in it.
func (w *writer) where(n api.Node, part func(api.Node) api.Node) api.Node {
	if n.Kind == api.List && len(n.Subs) == 0 && w.choose() {
		return n
	}
	w.word("where")
	return w.listedBlock(n, part)
}

func (w *writer) module(n api.Node) api.Node {
	if len(n.Subs) != 3 {
		panic("no module")
	}
	n = w.marked(n, "module")
	w.emit(tokenOf(n.Name))
	items := w.items(n.Subs[0])
	w.word("where")
	all := append(append([]api.Node{}, n.Subs[1].Subs...), n.Subs[2].Subs...)
	all = w.block(all, w.top)
	imports, decls := n.Subs[1], n.Subs[2]
	count := len(imports.Subs)
	imports.Subs, decls.Subs = all[:count], all[count:]
	n.Subs = []api.Node{items, imports, decls}
	w.emit(api.Token{Kind: api.EndTok})
	return n
}

func (w *writer) items(n api.Node) api.Node {
	if n.Kind == api.None {
		return n
	}
	w.word("(")
	n.Subs = w.all(n.Subs, ",", w.named)
	w.word(")")
	return n
}

func (w *writer) top(n api.Node) api.Node {
	switch n.Kind {
	case api.DImport:
		n = w.marked(n, "import")
		w.emit(tokenOf(n.Name))
		n.Subs = []api.Node{w.items(n.Subs[0])}
		return n
	case api.DData:
		return w.data(n)
	case api.DClass:
		n = w.marked(n, "class")
		w.emit(tokenOf(n.Name))
		variable := w.named(n.Subs[0])
		n.Subs = []api.Node{variable, w.where(n.Subs[1], w.signature)}
		return n
	case api.DInst:
		return w.instance(n)
	case api.DFix:
		n = w.marked(n, n.Name)
		w.emit(api.Token{Kind: api.IntTok, N: n.N})
		ops := w.listed(n.Subs[0], func(subs []api.Node) []api.Node { return w.all(subs, ",", w.operator) })
		n.Subs = []api.Node{ops}
		return n
	}
	return w.equation(n)
}

func (w *writer) data(n api.Node) api.Node {
	n = w.marked(n, "data")
	w.emit(tokenOf(n.Name))
	variables := w.listed(n.Subs[0], func(subs []api.Node) []api.Node { return w.all(subs, "", w.named) })
	constructors := n.Subs[1]
	if len(constructors.Subs) > 0 {
		w.word("=")
		constructors = w.listed(constructors, func(subs []api.Node) []api.Node { return w.all(subs, "|", w.constructor) })
	}
	n.Subs = []api.Node{variables, constructors}
	return n
}

func (w *writer) constructor(n api.Node) api.Node {
	n = w.named(n)
	list := n.Subs[0]
	if len(list.Subs) > 0 && list.Subs[0].Kind == api.DField {
		w.brace("{", 0)
		list.Subs = w.all(list.Subs, ",", w.signature)
		w.brace("}", 0)
	} else {
		list.Subs = w.all(list.Subs, "", func(x api.Node) api.Node { return w.typeExp(x, 2) })
	}
	n.Subs = []api.Node{list}
	return n
}

func (w *writer) signature(n api.Node) api.Node {
	n = w.named(n)
	w.word("::")
	n.Subs = []api.Node{w.typeExp(n.Subs[0], 0)}
	return n
}

func (w *writer) instance(n api.Node) api.Node {
	n = w.marked(n, "instance")
	context := n.Subs[0]
	count := len(context.Subs)
	if count > 0 || w.choose() {
		bracketed := count != 1 || w.choose()
		if bracketed {
			w.word("(")
		}
		context.Subs = w.all(context.Subs, ",", w.pred)
		if bracketed {
			w.word(")")
		}
		w.word("=>")
	}
	w.emit(tokenOf(n.Name))
	head := w.head(n.Subs[1])
	n.Subs = []api.Node{context, head, w.where(n.Subs[2], w.equation)}
	return n
}

func (w *writer) pred(n api.Node) api.Node {
	n = w.named(n)
	n.Subs = []api.Node{w.named(n.Subs[0])}
	return n
}

// head writes the type of an instance.
func (w *writer) head(n api.Node) api.Node {
	if n.Kind == api.TCon && (!isGreat(n.Name) || w.choose()) {
		return w.typeExp(n, 2)
	}
	if a, b, ok := arrow(n); ok {
		w.word("(")
		n = w.functionType(a, b, 2)
		w.word(")")
		return n
	}
	if parts, ok := special(n); ok {
		return w.specialType(parts)
	}
	w.word("(")
	n = w.applied(n)
	w.word(")")
	return n
}

// arrow is the two sides of a function type.
func arrow(n api.Node) (api.Node, api.Node, bool) {
	if n.Kind != api.TApp || n.Subs[0].Kind != api.TApp {
		return n, n, false
	}
	f := n.Subs[0].Subs[0]
	return n.Subs[0].Subs[1], n.Subs[1], f.Kind == api.TCon && f.Name == "->"
}

// special is the name and the parts of a type that is written with brackets,
// if it has them all.
func special(n api.Node) ([]api.Node, bool) {
	var parts []api.Node
	for n.Kind == api.TApp {
		parts = append([]api.Node{n.Subs[1]}, parts...)
		n = n.Subs[0]
	}
	counts := map[string]int{"[]": 1, "(,)": 2, "(,,)": 3}
	return append([]api.Node{n}, parts...), n.Kind == api.TCon && len(parts) > 0 && counts[n.Name] == len(parts)
}

// specialType writes a list's type, or a tuple's, of a name and parts.
func (w *writer) specialType(parts []api.Node) api.Node {
	name := parts[0].Name
	open := w.word(name[:1])
	n := placed(parts[0], open.Line, open.Col)
	for i, x := range parts[1:] {
		if i > 0 {
			w.word(",")
		}
		x = w.typeExp(x, 0)
		n = api.Node{Kind: api.TApp, Line: open.Line, Col: open.Col, Subs: []api.Node{n, x}}
	}
	w.word(name[len(name)-1:])
	return n
}

// functionType writes a function type whose argument needs brackets below a
// level.
func (w *writer) functionType(a, b api.Node, level int) api.Node {
	a = w.typeExp(a, level)
	sign := w.word("->")
	con := api.Node{Kind: api.TCon, Name: "->", Line: sign.Line, Col: sign.Col}
	b = w.typeExp(b, 0)
	inner := api.Node{Kind: api.TApp, Line: a.Line, Col: a.Col, Subs: []api.Node{con, a}}
	return api.Node{Kind: api.TApp, Line: a.Line, Col: a.Col, Subs: []api.Node{inner, b}}
}

// typeExp writes a type where any may stand (0), one without an arrow (1), or
// one that needs no brackets (2).
func (w *writer) typeExp(n api.Node, level int) api.Node {
	a, b, isArrow := arrow(n)
	parts, isSpecial := special(n)
	isArrow = isArrow && w.choose()
	isSpecial = isSpecial && w.choose()
	switch {
	case isSpecial:
		return w.specialType(parts)
	case isArrow && level > 0 || n.Kind == api.TApp && level > 1:
		w.word("(")
		n = w.typeExp(n, 0)
		w.word(")")
		return n
	case isArrow:
		return w.functionType(a, b, 1)
	case n.Kind == api.TApp:
		return w.applied(n)
	}
	return w.typeName(n)
}

// applied writes a type and its argument side by side.
func (w *writer) applied(n api.Node) api.Node {
	if n.Kind != api.TApp {
		return w.typeName(n)
	}
	f := w.applied(n.Subs[0])
	n.Subs = []api.Node{f, w.typeExp(n.Subs[1], 2)}
	return placed(n, f.Line, f.Col)
}

func (w *writer) typeName(n api.Node) api.Node {
	if n.Kind != api.TCon || n.Name == "" || isGreat(n.Name) {
		return w.named(n)
	}
	text := n.Name
	if text == "->" {
		open := w.word("(")
		w.word(text)
		w.word(")")
		return placed(n, open.Line, open.Col)
	}
	return w.spelled(n)
}

// spelled writes a name that consists of brackets and commas.
func (w *writer) spelled(n api.Node) api.Node {
	for i := range len(n.Name) {
		t := w.word(n.Name[i : i+1])
		if i == 0 {
			n = placed(n, t.Line, t.Col)
		}
	}
	return n
}
