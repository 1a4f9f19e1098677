package lex

import "teasel/api"

// literal is the string literal that rest, from its quote on, starts with.
func literal(rest string) (api.Token, int, api.Errno) {
	var denoted []byte
	at := 1
	for at < len(rest) && rest[at] != '"' {
		b, length := character(rest[at:])
		if length == 0 {
			return api.Token{}, 0, api.ErrText
		}
		denoted = append(denoted, b)
		at += length
	}
	if at == len(rest) {
		return api.Token{}, 0, api.ErrText
	}
	return api.Token{Kind: api.StrTok, Text: string(denoted)}, at + 1, api.OK
}

// character is the byte that rest, which is not empty, starts with inside a
// literal, and how many bytes it is written with: 0 if it is not permitted.
// (A newline is not, so no literal goes on behind its line.)
func character(rest string) (byte, int) {
	if rest[0] == '\\' {
		return escape(rest)
	}
	if rest[0] < 32 || rest[0] > 126 {
		return 0, 0
	}
	return rest[0], 1
}

// escape is the same for what starts with a backslash.
func escape(rest string) (byte, int) {
	if digits := prefix(rest[1:], isDigit); digits != "" {
		n, fits := value(digits, 255)
		if !fits {
			return 0, 0
		}
		return byte(n), 1 + len(digits)
	}
	if len(rest) == 1 {
		return 0, 0
	}
	switch rest[1] {
	case 'n':
		return '\n', 2
	case 't':
		return '\t', 2
	case '\\', '"':
		return rest[1], 2
	}
	return 0, 0
}
