package layout

import (
	"slices"

	"teasel/api"
)

// Words and signs are told by their kind too: a string literal may have the
// text of any of them.

func isWord(t api.Token, words ...string) bool {
	return t.Kind == api.KeyTok && slices.Contains(words, t.Text)
}

func isSign(t api.Token, signs ...string) bool {
	return t.Kind == api.SignTok && slices.Contains(signs, t.Text)
}

// isOpener is for the words that a block follows.
func isOpener(t api.Token) bool {
	return isWord(t, "where", "let", "do", "of")
}

// isCloser is for what ends the blocks within what it closes.
func isCloser(t api.Token) bool {
	return isSign(t, ")", "]", "}", ",") || isWord(t, "then", "else", "of", "in")
}

// isMarked is for what a closer may close.
func isMarked(t api.Token) bool {
	return isSign(t, "(", "[", "{") || isWord(t, "if", "case", "let")
}
