package parse

import (
	"slices"

	"teasel/api"
)

// reader hands out tokens one by one. A token is taken only where the grammar
// goes on with it, so that the first one that is refused is the one to tell.
type reader struct {
	tokens []api.Token // those that are left
	last   api.Token   // the one that was taken last
	open   int         // how many brackets are open
}

// newReader is a reader of ts. Ahead of the first token its place is 1, 1,
// where an error is told if there are no tokens.
func newReader(ts []api.Token) reader {
	return reader{tokens: ts, last: api.Token{Line: 1, Col: 1}}
}

// peek is the next token. Behind the last one it is a token of no kind, which
// no rule goes on with.
func (r *reader) peek() api.Token {
	if len(r.tokens) == 0 {
		return api.Token{}
	}
	return r.tokens[0]
}

// is says whether the next token is one of these words and signs.
func (r *reader) is(texts ...string) bool {
	t := r.peek()
	return (t.Kind == api.KeyTok || t.Kind == api.SignTok) && slices.Contains(texts, t.Text)
}

// isBrace says whether the next token is a brace with that N.
func (r *reader) isBrace(text string, n int) bool {
	return r.is(text) && r.peek().N == n
}

// isKind says whether the next token is of one of these kinds.
func (r *reader) isKind(kinds ...int) bool {
	return slices.Contains(kinds, r.peek().Kind)
}

// take passes over the next token.
func (r *reader) take() api.Token {
	t := r.peek()
	r.count(t)
	r.tokens = r.tokens[1:]
	r.last = t
	return t
}

// count keeps how many brackets are open.
func (r *reader) count(t api.Token) {
	switch {
	case r.is("(", "[", "{"):
		if r.open == api.MaxNest {
			fail(api.ErrNest, t.Line, t.Col)
		}
		r.open++
	case r.is(")", "]", "}"):
		r.open--
	}
}

// refuse leaves with the error that no module goes on with the next token.
func (r *reader) refuse() {
	at := r.last
	if len(r.tokens) > 0 {
		at = r.tokens[0]
	}
	fail(api.ErrParse, at.Line, at.Col)
}

// need takes one of these words and signs.
func (r *reader) need(texts ...string) api.Token {
	if !r.is(texts...) {
		r.refuse()
	}
	return r.take()
}

// needBrace takes a brace with that N.
func (r *reader) needBrace(text string, n int) api.Token {
	if !r.isBrace(text, n) {
		r.refuse()
	}
	return r.take()
}

// needKind takes a token of one of these kinds.
func (r *reader) needKind(kinds ...int) api.Token {
	if !r.isKind(kinds...) {
		r.refuse()
	}
	return r.take()
}
