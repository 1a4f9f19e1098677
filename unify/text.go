package unify

import (
	"slices"
	"strings"

	"teasel/api"
)

// Text is how t is written, or an empty string if it is not a valid type.
func Text(t api.Type) string {
	n := newGraph().add(t)
	if n == nil || n.vast() {
		return ""
	}
	var b strings.Builder
	write(&b, t, loose)
	return b.String()
}

// How tightly the text of a type holds together.
const (
	loose  = iota // an arrow
	middle        // an application
	tight         // a name, a list or a tuple
)

// shape is how a TApp is written.
type shape struct {
	holds                int
	open, between, close string
	parts                []api.Type
	needs                [3]int // how tightly parts must hold together to be without parentheses
}

func shapeOf(t api.Type) shape {
	con, arguments := spineOf(t)
	switch {
	case con == "Prim.->" && len(arguments) == 2:
		return shape{holds: loose, between: " -> ", parts: arguments, needs: [3]int{middle, loose}}
	case con == "Prim.[]" && len(arguments) == 1:
		return shape{holds: tight, open: "[", close: "]", parts: arguments}
	case con == "Prim.(,)" && len(arguments) == 2, con == "Prim.(,,)" && len(arguments) == 3:
		return shape{holds: tight, open: "(", between: ", ", close: ")", parts: arguments}
	}
	return shape{holds: middle, between: " ", parts: t.Subs, needs: [3]int{middle, tight}}
}

// spineOf is the Name of the TCon that is applied to at most three arguments,
// and these; no Name, if there is none. It looks no further, so that a long
// application is not gone through once for each argument.
func spineOf(t api.Type) (string, []api.Type) {
	var arguments []api.Type
	for t.Kind == api.TApp && len(arguments) < 3 {
		arguments = append(arguments, t.Subs[1])
		t = t.Subs[0]
	}
	if t.Kind != api.TCon {
		return "", nil
	}
	slices.Reverse(arguments)
	return t.Name, arguments
}

// write adds a type, in parentheses if it does not hold together as tightly as
// it needs to.
func write(b *strings.Builder, t api.Type, need int) {
	if t.Kind != api.TApp {
		b.WriteString(nameOf(t))
		return
	}
	s := shapeOf(t)
	if s.holds < need {
		s.open, s.close = "(", ")"
	}
	b.WriteString(s.open)
	for i, part := range s.parts {
		if i > 0 {
			b.WriteString(s.between)
		}
		write(b, part, s.needs[i])
	}
	b.WriteString(s.close)
}

func nameOf(t api.Type) string {
	if t.Kind == api.TCon {
		return strings.TrimPrefix(t.Name, "Prim.")
	}
	return t.Name
}
