package parse

import (
	"slices"
	"strings"

	"teasel/api"
)

// The following say whether a text is a name of a sort: one token of that
// kind, if it is all of a file, or a name that the grammar makes.

func isVar(text string) bool {
	return isWord(text) && !isCapital(text[0]) && text != "_" && !isReservedWord(text)
}

func isCon(text string) bool {
	return isWord(text) && isCapital(text[0])
}

// isOp leaves out what is the beginning of a comment.
func isOp(text string) bool {
	return isSymbols(text) && text[0] != ':' && !isReservedOperator(text) &&
		(text == "-" || strings.Trim(text, "-") != "")
}

func isConOp(text string) bool {
	return isSymbols(text) && text[0] == ':' && text != "::"
}

func isVarOrOp(text string) bool {
	return isVar(text) || isOp(text)
}

func isConOrConOp(text string) bool {
	return isCon(text) || isConOp(text)
}

func isItemName(text string) bool {
	return isCon(text) || isVarOrOp(text)
}

// isValueName is for the names of constructors in expressions and patterns.
func isValueName(text string) bool {
	return isConOrConOp(text) || isOneOf(text, "()", "(,)", "(,,)")
}

func isTypeName(text string) bool {
	return isCon(text) || isOneOf(text, "()", "(,)", "(,,)", "[]", "->")
}

func isFixity(text string) bool {
	return isOneOf(text, "infixl", "infixr", "infix")
}

func isOneOf(text string, words ...string) bool {
	return slices.Contains(words, text)
}

func isReservedWord(text string) bool {
	return isOneOf(text, "case", "class", "data", "do", "else", "if", "import", "in",
		"infix", "infixl", "infixr", "instance", "let", "module", "of", "then", "where")
}

func isReservedOperator(text string) bool {
	return isOneOf(text, "=", `\`, "|", "<-", "->", "@", "=>", "::")
}

func isWord(text string) bool {
	return hasLength(text) && isWordStart(text[0]) && allBytes(text, isWordByte)
}

func isSymbols(text string) bool {
	return hasLength(text) && allBytes(text, isSymbol)
}

// hasLength is for texts that can be a file of their own, and are not empty.
func hasLength(text string) bool {
	return 0 < len(text) && len(text) <= api.MaxFile
}

func allBytes(text string, isOne func(byte) bool) bool {
	for i := range len(text) {
		if !isOne(text[i]) {
			return false
		}
	}
	return true
}

func isCapital(b byte) bool {
	return 'A' <= b && b <= 'Z'
}

func isWordStart(b byte) bool {
	return isCapital(b) || 'a' <= b && b <= 'z' || b == '_'
}

func isWordByte(b byte) bool {
	return isWordStart(b) || '0' <= b && b <= '9' || b == '\''
}

func isSymbol(b byte) bool {
	return strings.IndexByte(`!#$%&*+./<=>?@\^|-:`, b) >= 0
}
