package lex_test

import (
	"math/big"
	"regexp"
	"slices"
	"strconv"
	"strings"

	"teasel/api"
)

// A second lexer, by regular expressions, that Read is held against.

const symbolClass = `!#$%&*+./<=>?@\\^|\-:`

var (
	spaceForm       = regexp.MustCompile(`^[ \n]+`)
	lineCommentForm = regexp.MustCompile(`^-{2,}(?:[^` + symbolClass + `\n][^\n]*)?(?:\n|\z)`)
	wordForm        = regexp.MustCompile(`^[A-Za-z_][A-Za-z0-9_']*`)
	digitsForm      = regexp.MustCompile(`^[0-9]+`)
	symbolsForm     = regexp.MustCompile(`^[` + symbolClass + `]+`)
	signForm        = regexp.MustCompile("^[(),;\\[\\]{}`]")
	literalForm     = regexp.MustCompile(`^"(?:[ !#-\[\]-~]|\\(?:[0-9]+|[nt\\"]))*"`)
	escapeForm      = regexp.MustCompile(`\\(?:[0-9]+|.)`)
)

var (
	reservedWords     = strings.Fields("case class data do else if import in infix infixl infixr instance let module of then where")
	reservedOperators = strings.Fields(`= \ | <- -> @ => ::`)
)

// reference is what Read should answer.
func reference(text string) ([]api.Token, api.Diag) {
	if len(text) > 16384 {
		return nil, api.Diag{Line: 1, Col: 1, Number: api.ErrLong}
	}
	var tokens []api.Token
	at := 0
	for {
		rest := text[at:]
		if skipped := skippedBy(rest); skipped > 0 {
			at += skipped
			continue
		}
		t, length, number := referenceToken(rest)
		line := 1 + strings.Count(text[:at], "\n")
		col := at - strings.LastIndex(text[:at], "\n")
		if number != api.OK {
			return nil, api.Diag{Line: line, Col: col, Number: number}
		}
		t.Line, t.Col = line, col
		tokens = append(tokens, t)
		if rest == "" {
			return tokens, api.Diag{}
		}
		at += length
	}
}

func skippedBy(rest string) int {
	if n := len(spaceForm.FindString(rest)); n > 0 {
		return n
	}
	if strings.HasPrefix(rest, "{-") {
		return len(rest) - len(behindComment(rest[2:], rest))
	}
	return len(lineCommentForm.FindString(rest))
}

// behindComment is what follows the comment that body is the inside of; whole, if it is not closed.
func behindComment(body, whole string) string {
	for body != "" {
		if behind, ok := strings.CutPrefix(body, "-}"); ok {
			return behind
		}
		if inner, ok := strings.CutPrefix(body, "{-"); ok {
			behind := behindComment(inner, "\x00")
			if behind == "\x00" {
				return whole
			}
			body = behind
			continue
		}
		body = body[1:]
	}
	return whole
}

func referenceToken(rest string) (api.Token, int, api.Errno) {
	if rest == "" {
		return api.Token{Kind: api.EndTok}, 0, api.OK
	}
	if strings.HasPrefix(rest, "{-") {
		return api.Token{}, 0, api.ErrComment
	}
	if w := wordForm.FindString(rest); w != "" {
		return api.Token{Kind: referenceWordKind(w), Text: w}, len(w), api.OK
	}
	if d := digitsForm.FindString(rest); d != "" {
		n, _ := new(big.Int).SetString(d, 10)
		if n.BitLen() > 63 {
			return api.Token{}, 0, api.ErrInt
		}
		return api.Token{Kind: api.IntTok, Text: d, N: int(n.Int64())}, len(d), api.OK
	}
	if s := symbolsForm.FindString(rest); s != "" {
		return api.Token{Kind: referenceOperatorKind(s), Text: s}, len(s), api.OK
	}
	if s := signForm.FindString(rest); s != "" {
		return api.Token{Kind: api.SignTok, Text: s}, len(s), api.OK
	}
	if rest[0] != '"' {
		return api.Token{}, 0, api.ErrByte
	}
	l := literalForm.FindString(rest)
	bytes, ok := denotedBy(l)
	if !ok {
		return api.Token{}, 0, api.ErrText
	}
	return api.Token{Kind: api.StrTok, Text: bytes}, len(l), api.OK
}

func referenceWordKind(w string) int {
	switch {
	case slices.Contains(reservedWords, w):
		return api.KeyTok
	case w == "_":
		return api.SignTok
	case w[0] <= 'Z':
		return api.ConTok
	}
	return api.VarTok
}

func referenceOperatorKind(s string) int {
	switch {
	case slices.Contains(reservedOperators, s):
		return api.SignTok
	case strings.HasPrefix(s, ":"):
		return api.ConOpTok
	}
	return api.OpTok
}

// denotedBy is the bytes of a literal that has its form.
func denotedBy(l string) (string, bool) {
	if l == "" {
		return "", false
	}
	ok := true
	bytes := escapeForm.ReplaceAllStringFunc(l[1:len(l)-1], func(e string) string {
		switch e {
		case `\n`:
			return "\n"
		case `\t`:
			return "\t"
		case `\\`, `\"`:
			return e[1:]
		}
		n, err := strconv.Atoi(e[1:])
		if err != nil || n > 255 {
			ok = false
		}
		return string([]byte{byte(n)})
	})
	return bytes, ok
}
