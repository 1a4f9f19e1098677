// Package lex is layer 1, the lexer: see shared/doc/01-lex.md.
package lex

import (
	"strings"

	"teasel/api"
)

// Read is a file's tokens, or what is wrong first in it.
func Read(text string) ([]api.Token, api.Diag) {
	if len(text) > api.MaxFile {
		return nil, api.Diag{Line: 1, Col: 1, Number: api.ErrLong}
	}
	s := source{rest: text, line: 1, col: 1}
	var tokens []api.Token
	for {
		if !s.skip() {
			return nil, s.wrong(api.ErrComment)
		}
		if s.rest == "" {
			return append(tokens, api.Token{Kind: api.EndTok, Line: s.line, Col: s.col}), api.Diag{}
		}
		t, length, err := token(s.rest)
		if err != api.OK {
			return nil, s.wrong(err)
		}
		t.Line, t.Col = s.line, s.col
		tokens = append(tokens, t)
		s.advance(length)
	}
}

// source is what is left of a text, and where that begins.
type source struct {
	rest      string
	line, col int
}

// wrong is an error at the place that has been reached.
func (s *source) wrong(number api.Errno) api.Diag {
	return api.Diag{Line: s.line, Col: s.col, Number: number}
}

// advance passes over so many bytes.
func (s *source) advance(length int) {
	passed := s.rest[:length]
	s.rest = s.rest[length:]
	if lines := strings.Count(passed, "\n"); lines > 0 {
		s.line += lines
		s.col = length - strings.LastIndexByte(passed, '\n')
		return
	}
	s.col += length
}

// skip passes over whitespace and comments. At a block comment that is not
// closed it stops and answers false: that is the place to tell.
func (s *source) skip() bool {
	for {
		length, closed := gap(s.rest)
		if !closed {
			return false
		}
		if length == 0 {
			return true
		}
		s.advance(length)
	}
}

// token is the token that rest, which is not empty, starts with (without its
// place), and how many bytes it takes.
func token(rest string) (api.Token, int, api.Errno) {
	first := rest[0]
	switch {
	case isLetter(first) || first == '_':
		return word(rest)
	case isDigit(first):
		return integer(rest)
	case isSymbol(first):
		return operator(rest)
	case isBracket(first):
		return spelt(api.SignTok, rest[:1])
	case first == '"':
		return literal(rest)
	}
	return api.Token{}, 0, api.ErrByte
}

func word(rest string) (api.Token, int, api.Errno) {
	text := prefix(rest, isWordByte)
	return spelt(wordKind(text), text)
}

func wordKind(text string) int {
	switch {
	case isReservedWord(text):
		return api.KeyTok
	case text == "_":
		return api.SignTok
	case isCapital(text[0]):
		return api.ConTok
	}
	return api.VarTok
}

func integer(rest string) (api.Token, int, api.Errno) {
	digits := prefix(rest, isDigit)
	n, fits := value(digits, maxInt)
	if !fits {
		return api.Token{}, 0, api.ErrInt
	}
	t, length, err := spelt(api.IntTok, digits)
	t.N = n
	return t, length, err
}

func operator(rest string) (api.Token, int, api.Errno) {
	text := prefix(rest, isSymbol)
	return spelt(operatorKind(text), text)
}

func operatorKind(text string) int {
	switch {
	case isReservedOperator(text):
		return api.SignTok
	case text[0] == ':':
		return api.ConOpTok
	}
	return api.OpTok
}

// spelt is a token whose Text is its source form. The Text is a copy, lest
// the token keep the whole file in memory.
func spelt(kind int, text string) (api.Token, int, api.Errno) {
	return api.Token{Kind: kind, Text: strings.Clone(text)}, len(text), api.OK
}
