package desugar_test

import (
	"strconv"

	"teasel/api"
)

// A second way to say what programs mean, as the chapter's words have it, without
// Core: values are evaluated when they are needed, patterns are matched naively.
// Programs that are made at random (random_test.go) come with it.

// lazy is a value that is evaluated when it is needed, and once.
type lazy struct {
	do   func() thing
	is   thing
	busy bool
}

func later(do func() thing) *lazy { return &lazy{do: do} }

func ready(x thing) *lazy { return &lazy{is: x} }

func (l *lazy) force() thing {
	if l.do != nil {
		if l.busy {
			panic(end{api.Running})
		}
		l.busy = true
		l.is = l.do()
		l.do = nil
	}
	return l.is
}

// thing is a number, a constructor with its fields, a function, what the variables
// of a DPat have matched, or a function of things of any type, which has to know
// that.
type thing struct {
	n      int
	con    string
	fields []*lazy
	call   func(*lazy) thing
	bound  scope
	all    func(kind, *lazy) thing
}

func fails() thing { panic(end{api.Failed}) }

func of(con string, fields ...*lazy) thing { return thing{con: con, fields: fields} }

func bool2(is bool) thing {
	if is {
		return of("True")
	}
	return of("False")
}

// listing is a list of things.
func listing(all ...thing) thing {
	l := of("[]")
	for i := len(all) - 1; i >= 0; i-- {
		l = of(":", ready(all[i]), ready(l))
	}
	return l
}

func bytesOf(text string) thing {
	var all []thing
	for i := range len(text) {
		all = append(all, thing{n: int(text[i])})
	}
	return listing(all...)
}

// scope is what names mean.
type scope map[string]*lazy

func (s scope) with(other scope) scope {
	all := scope{}
	for name, l := range s {
		all[name] = l
	}
	for name, l := range other {
		all[name] = l
	}
	return all
}

// The Prelude's == , <= and show of things of a type.

func equal(t kind, a, b *lazy) bool {
	x, y := a.force(), b.force()
	if t.name == "Int" {
		return x.n == y.n
	}
	if t.name == "Bool" && x.con == "True" { // True == b = b
		return y.con == "True"
	}
	if x.con != y.con {
		return false
	}
	for i, f := range fieldKinds(t, x.con) {
		if !equal(f, x.fields[i], y.fields[i]) {
			return false
		}
	}
	return true
}

func below(t kind, a, b *lazy) bool {
	x := a.force()
	if t.name == "Int" {
		return x.n <= b.force().n
	}
	if x.con == "[]" {
		return true
	}
	y := b.force()
	switch {
	case y.con == "[]":
		return false
	case !below(t.parts[0], x.fields[0], y.fields[0]):
		return false
	case !below(t.parts[0], y.fields[0], x.fields[0]):
		return true
	}
	return below(t, x.fields[1], y.fields[1])
}

// shown is the bytes of show, one after the other, as they are asked for.
func shown(t kind, x *lazy, rest func() thing) thing {
	switch t.name {
	case "Int":
		return write(strconv.Itoa(x.force().n), rest)
	case "Bool":
		return write(x.force().con, rest)
	case "[]":
		return write("[", func() thing { return elements(t, x, rest) })
	case "(,)":
		p := func(i int) *lazy { return later(func() thing { return x.force().fields[i].force() }) }
		x.force()
		return write("(", func() thing {
			return shown(t.parts[0], p(0), func() thing {
				return write(",", func() thing { return shown(t.parts[1], p(1), func() thing { return write(")", rest) }) })
			})
		})
	}
	v := x.force()
	if v.con == "Nothing" {
		return write("Nothing", rest)
	}
	return write("Just ", func() thing { return shown(t.parts[0], v.fields[0], rest) })
}

func elements(t kind, x *lazy, rest func() thing) thing {
	v := x.force()
	if v.con == "[]" {
		return write("]", rest)
	}
	tail := v.fields[1].force()
	return shown(t.parts[0], v.fields[0], func() thing {
		if tail.con == "[]" {
			return write("]", rest)
		}
		return write(",", func() thing { return elements(t, v.fields[1], rest) })
	})
}

func write(text string, rest func() thing) thing {
	if text == "" {
		return rest()
	}
	return of(":", ready(thing{n: int(text[0])}), later(func() thing { return write(text[1:], rest) }))
}
