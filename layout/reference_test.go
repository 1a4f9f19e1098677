package layout_test

import (
	"slices"
	"strconv"
	"strings"

	"teasel/api"
)

// A second layout rule that Lay is held against: the chapter's steps word by
// word, on a stack of texts that is looked through anew for each token. A
// block is written "block" and its column, braces "braces", a mark as its kind.

const (
	openerWords  = " where let do of "
	closerTexts  = " ) ] } , then else of in "
	markedTexts  = " ( [ { if case let "
	matchingText = " )( ][ }{ }braces ,( ,[ ,{ then-if else-then of-case in-let "
)

// nameOf is how the chapter denotes a token: empty, if it is not by its Text.
func nameOf(t api.Token) string {
	word := t.Text != "" && t.Text[0] >= 'a' && t.Text[0] <= 'z'
	if t.Kind == api.KeyTok && word || t.Kind == api.SignTok && !word {
		return t.Text
	}
	return ""
}

func among(name, names string) bool {
	return name != "" && strings.Contains(names, " "+name+" ")
}

func columnOf(entry string) (int, bool) {
	digits, ok := strings.CutPrefix(entry, "block")
	if !ok {
		return 0, false
	}
	n, err := strconv.Atoi(digits)
	return n, err == nil
}

func looseEntry(entry string) bool {
	return strings.HasPrefix(entry, "block") || entry == "let"
}

func matchingPair(closer, entry string) bool {
	return among(closer+entry, matchingText) || among(closer+"-"+entry, matchingText)
}

type referenceState struct {
	stack []string
	out   []api.Token
}

func (s *referenceState) insert(sign string, at api.Token) {
	s.out = append(s.out, api.Token{Kind: api.SignTok, Text: sign, N: 1, Line: at.Line, Col: at.Col})
}

// current is the current block's place and column: -1 and 0, if there is none.
func (s *referenceState) current() (int, int) {
	for i, e := range slices.Backward(s.stack) {
		if e == "braces" {
			break
		}
		if column, ok := columnOf(e); ok {
			return i, column
		}
	}
	return -1, 0
}

// reference is what Lay should answer.
func reference(ts []api.Token) ([]api.Token, api.Diag) {
	end := api.Token{Kind: api.EndTok, Line: 1, Col: 1}
	inputs := ts
	if i := slices.IndexFunc(ts, func(t api.Token) bool { return t.Kind == api.EndTok }); i >= 0 {
		inputs, end = ts[:i], ts[i]
	} else if len(ts) > 0 {
		end.Line, end.Col = ts[len(ts)-1].Line, ts[len(ts)-1].Col
	}
	var s referenceState
	for i, t := range append(slices.Clone(inputs), end) {
		last := i == len(inputs)
		col := t.Col
		if last {
			col = 0
		}
		firstOnLine := last || i == 0 || t.Line > inputs[i-1].Line
		if i > 0 && among(nameOf(inputs[i-1]), openerWords) {
			if !last && nameOf(t) == "{" {
				s.stack = append(s.stack, "braces")
				s.out = append(s.out, t)
				continue
			}
			s.insert("{", t)
			if _, m := s.current(); col > m {
				s.stack = append(s.stack, "block"+strconv.Itoa(col))
				firstOnLine = false
			} else {
				s.insert("}", t)
			}
		}
		if firstOnLine && !s.stepTwo(t, col) {
			return nil, api.Diag{Line: t.Line, Col: t.Col, Number: api.ErrLayout}
		}
		if !last {
			s.stepThree(t)
		}
		s.out = append(s.out, t)
		if !last && among(nameOf(t), markedTexts) {
			s.stack = append(s.stack, nameOf(t))
		}
	}
	return s.out, api.Diag{}
}

func (s *referenceState) stepTwo(t api.Token, col int) bool {
	for {
		b, column := s.current()
		if b < 0 || col > column || col == column && among(nameOf(t), closerTexts) {
			return true
		}
		for _, e := range s.stack[b+1:] {
			if !looseEntry(e) {
				return false
			}
		}
		if col == column {
			s.stack = s.stack[:b+1]
			s.insert(";", t)
			return true
		}
		s.stack = s.stack[:b]
		s.insert("}", t)
	}
}

func (s *referenceState) stepThree(t api.Token) {
	if !among(nameOf(t), closerTexts) {
		return
	}
	x := len(s.stack) - 1
	for x >= 0 && (nameOf(t) == "in" && strings.HasPrefix(s.stack[x], "block") || nameOf(t) != "in" && looseEntry(s.stack[x])) {
		x--
	}
	if x < 0 || !matchingPair(nameOf(t), s.stack[x]) {
		return
	}
	for len(s.stack) > x+1 {
		if _, ok := columnOf(s.stack[len(s.stack)-1]); ok {
			s.insert("}", t)
		}
		s.stack = s.stack[:len(s.stack)-1]
	}
	switch nameOf(t) {
	case ",":
	case "then":
		s.stack[x] = "then"
	default:
		s.stack = s.stack[:x]
	}
}
