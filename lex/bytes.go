package lex

import "strings"

// maxInt is the greatest number that an IntTok may have.
const maxInt = 1<<63 - 1

func isSpace(b byte) bool {
	return b == ' ' || b == '\n'
}

func isCapital(b byte) bool {
	return 'A' <= b && b <= 'Z'
}

func isLetter(b byte) bool {
	return isCapital(b) || 'a' <= b && b <= 'z'
}

func isDigit(b byte) bool {
	return '0' <= b && b <= '9'
}

// isWordByte is for the bytes behind a word's first one.
func isWordByte(b byte) bool {
	return isLetter(b) || isDigit(b) || b == '_' || b == '\''
}

func isSymbol(b byte) bool {
	return strings.IndexByte(`!#$%&*+./<=>?@\^|-:`, b) >= 0
}

func isDash(b byte) bool {
	return b == '-'
}

// isBracket is for the bytes that are a token each, whatever follows.
func isBracket(b byte) bool {
	return strings.IndexByte("(),;[]{}`", b) >= 0
}

func isReservedWord(text string) bool {
	return isOneOf(text, "case", "class", "data", "do", "else", "if", "import", "in",
		"infix", "infixl", "infixr", "instance", "let", "module", "of", "then", "where")
}

func isReservedOperator(text string) bool {
	return isOneOf(text, "=", `\`, "|", "<-", "->", "@", "=>", "::")
}

func isOneOf(text string, words ...string) bool {
	for _, w := range words {
		if text == w {
			return true
		}
	}
	return false
}

// prefix is the longest beginning of rest whose bytes are all of a sort.
func prefix(rest string, isOfSort func(byte) bool) string {
	length := 0
	for length < len(rest) && isOfSort(rest[length]) {
		length++
	}
	return rest[:length]
}

// value is the number that digits are, if it is not above most. It looks
// ahead of each step, since any number of digits may come.
func value(digits string, most int) (int, bool) {
	n := 0
	for i := 0; i < len(digits); i++ {
		digit := int(digits[i] - '0')
		if n > (most-digit)/10 {
			return 0, false
		}
		n = n*10 + digit
	}
	return n, true
}
