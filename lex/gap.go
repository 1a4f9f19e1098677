package lex

import "strings"

const (
	opening = "{-"
	closing = "-}"
)

// gap is how many bytes the whitespace, or the one comment, takes that rest
// starts with: 0 if a token, or nothing, comes next. It is false if that is
// a block comment that is not closed.
func gap(rest string) (int, bool) {
	if spaces := prefix(rest, isSpace); spaces != "" {
		return len(spaces), true
	}
	if strings.HasPrefix(rest, opening) {
		return blockComment(rest)
	}
	return lineComment(rest), true
}

// lineComment is the length of the line comment that rest starts with, 0 if
// there is none. All symbol characters are taken first: what has another one
// beside its dashes is an operator.
func lineComment(rest string) int {
	symbols := prefix(rest, isSymbol)
	if len(symbols) < 2 || prefix(symbols, isDash) != symbols {
		return 0
	}
	if end := strings.IndexByte(rest, '\n'); end >= 0 {
		return end
	}
	return len(rest)
}

// blockComment is the length of the block comment that rest starts with, and
// whether it is closed. An opening or closing is passed over whole, so that
// no dash serves both.
func blockComment(rest string) (int, bool) {
	depth, at := 0, 0
	for at < len(rest) {
		switch {
		case strings.HasPrefix(rest[at:], opening):
			depth++
			at += len(opening)
		case strings.HasPrefix(rest[at:], closing):
			depth--
			at += len(closing)
		default:
			at++
		}
		if depth == 0 {
			return at, true
		}
	}
	return 0, false
}
