package core

import (
	"iter"
	"strings"

	"teasel/api"
)

// ownBinders is the names that an expression binds without its children.
func ownBinders(e *api.Expr) iter.Seq[string] {
	return func(yield func(string) bool) {
		for _, name := range e.Names {
			if !yield(name) {
				return
			}
		}
		for i := range e.Binds {
			if !yield(e.Binds[i].Name) {
				return
			}
		}
		if e.Kind == api.Case && !yield(e.Name) {
			return
		}
		for i := range e.Alts {
			for _, name := range e.Alts[i].Names {
				if !yield(name) {
					return
				}
			}
		}
	}
}

// lister lists binders in order.
type lister struct {
	names []string
	known map[*api.Expr]extent // of an expression that shares so much memory that what binds nothing is passed over
}

func (l *lister) list(e *api.Expr) {
	if x, found := l.known[e]; found && x.binders == 0 {
		return
	}
	l.names = append(l.names, e.Names...)
	for i := range e.Subs {
		l.list(&e.Subs[i])
	}
	for i := range e.Binds {
		l.names = append(l.names, e.Binds[i].Name)
		l.list(&e.Binds[i].Expr)
	}
	if e.Kind == api.Case {
		l.names = append(l.names, e.Name)
	}
	for i := range e.Alts {
		l.names = append(l.names, e.Alts[i].Names...)
		l.list(&e.Alts[i].Body)
	}
}

// numberOf is the n of a fresh name t#n, or 0 for any other name.
func numberOf(name string) int {
	digits, found := strings.CutPrefix(name, "t#")
	if !found || len(digits) < 1 || len(digits) > 9 || digits[0] == '0' {
		return 0
	}
	n := 0
	for _, digit := range []byte(digits) {
		if digit < '0' || digit > '9' {
			return 0
		}
		n = 10*n + int(digit-'0')
	}
	return n
}
