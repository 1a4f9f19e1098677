package infer_test

import (
	"math/rand"
	"strings"
	"testing"

	"teasel/api"
)

// localMaker makes programs with local functions whose types depend on what is
// outer: nearly all that it makes says that some types are the same.
type localMaker struct {
	maker
}

func (m *localMaker) expression(depth int) string {
	if depth <= 0 {
		return m.leaf()
	}
	e := func() string { return m.expression(depth - 1 - m.Intn(2)) }
	switch m.Intn(12) {
	case 0:
		return "(" + e() + ", " + e() + ")"
	case 1:
		return "(id " + e() + ")"
	case 2:
		return "[" + e() + "]"
	case 3, 4:
		return "(const " + e() + " [" + m.leaf() + ", " + e() + "])"
	case 5, 6, 7, 8:
		return m.within(func() string { return "(let { " + m.bindings(depth-1) + " } in " + e() + ")" })
	case 9:
		return m.within(func() string { return "(\\" + m.name() + " -> " + e() + ")" })
	}
	return "(" + m.leaf() + " " + e() + ")"
}

func (m *localMaker) leaf() string {
	if m.Intn(12) == 0 {
		return m.pick("1", "True", "[]", "def", "nul", "show", "(==)")
	}
	n := len(m.names)
	return m.names[max(m.Intn(n), m.Intn(n))]
}

func (m *localMaker) bindings(depth int) string {
	var names, all []string
	for range 1 + m.Intn(2) {
		names = append(names, m.name())
	}
	for _, name := range names {
		all = append(all, m.binding(name, depth))
	}
	return strings.Join(all, "; ")
}

func (m *localMaker) binding(left string, depth int) string {
	return m.within(func() string {
		for range m.Intn(3) {
			left += " " + m.name()
		}
		return left + " = " + m.expression(depth)
	})
}

func (m *localMaker) program() string {
	m.count, m.names = 0, nil
	left := m.name()
	for range 1 + m.Intn(3) {
		left += " " + m.name()
	}
	return "module M where\n" + left + " = " + m.expression(3+m.Intn(3)) + "\n"
}

// P9.1, P9.2: so have random programs with local functions.
func TestRandomLocals(t *testing.T) {
	m := &localMaker{maker: maker{Rand: rand.New(rand.NewSource(902))}}
	counts := map[string]int{}
	for range 3000 {
		text := m.program()
		_, d := wantReference(t, text)
		counts[errorText(d.Number)]++
		if d.Number == api.OK && strings.Contains(text, "let") {
			counts["let"]++
		}
	}
	for _, what := range []string{"ErrType", "error 0", "let"} {
		if counts[what] < 400 {
			t.Error(counts)
		}
	}
}
