package typing

import (
	"math"

	"teasel/api"
)

// pred says that a term is of a class.
type pred struct {
	class string
	of    *term
}

// scheme is the type of a name, in which the variables that are of some level,
// or of a further one, are quantified.
type scheme struct {
	of        *term
	level     int
	preds     []pred  // of a name at the top
	variables []*term // those of the preds
	within    *group  // the group of a local name, whose preds come to be known later
	fields    int     // how many a constructor has
}

// kept is the preds of a scheme, and the variables that are quantified in them.
func (k *scheme) kept() ([]pred, []*term) {
	if k.within != nil {
		return k.within.kept, k.within.variables
	}
	return k.preds, k.variables
}

// The level of what is quantified in the scheme of a name at the top, and in
// that of a name that has a single type, which is nothing.
const (
	atTop  = 1
	single = math.MaxInt
)

// function is the type of a function, and result that of what it answers.
func function(result *term, arguments ...*term) *term {
	for i := len(arguments) - 1; i >= 0; i-- {
		result = newApplication(newApplication(newCon("Prim.->"), arguments[i]), result)
	}
	return result
}

// applied is a constructor of types with its arguments.
func applied(con string, arguments ...*term) *term {
	t := newCon(con)
	for _, a := range arguments {
		t = newApplication(t, a)
	}
	return t
}

const integerName = "Prim.Int"

func integer() *term {
	return newCon(integerName)
}

func truth() *term {
	return newCon("Prim.Bool")
}

func listOf(element *term) *term {
	return applied("Prim.[]", element)
}

// tupleOf is the type of a tuple of two or three.
func tupleOf(parts ...*term) *term {
	if len(parts) == 2 {
		return applied("Prim.(,)", parts...)
	}
	return applied("Prim.(,,)", parts...)
}

// split takes the type of a function apart that has so many arguments at least.
// A type without variables is not copied where it is used, and so may have turned
// out to be the same as others by then.
func split(t *term, count int) ([]*term, *term) {
	arguments := make([]*term, count)
	for i := range arguments {
		t = t.find()
		arguments[i] = t.parts[0].find().parts[1]
		t = t.parts[1]
	}
	return arguments, t
}

// step is a tree of a type whose term is to be made, or, once those of its parts
// are, the tree of a TApp that they are to be put into.
type step struct {
	of    *api.Node
	parts bool
}

// termOf is the type of a tree, with variables for its TVars. What is left of it
// is kept on a stack: types may be too deep for calls within calls.
func termOf(tree *api.Node, variables map[string]*term) *term {
	var made []*term
	left := []step{{of: tree}}
	for len(left) > 0 {
		last := left[len(left)-1]
		left = left[:len(left)-1]
		n := last.of
		switch {
		case last.parts:
			first := len(made) - 2
			made = append(made[:first], newApplication(made[first], made[first+1]))
		case n.Kind == api.TApp:
			left = append(left, step{of: n, parts: true}, step{of: &n.Subs[1]}, step{of: &n.Subs[0]})
		case n.Kind == api.TCon:
			made = append(made, newCon(n.Name))
		default:
			if variables[n.Name] == nil {
				variables[n.Name] = newVariable(atTop)
			}
			made = append(made, variables[n.Name])
		}
	}
	return made[0]
}
