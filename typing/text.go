package typing

import (
	"slices"
	"strconv"
	"strings"

	"teasel/api"
	"teasel/unify"
)

// text is a scheme of a name at the top as it is written.
func (k *scheme) text() string {
	w := &writer{numbers: map[*term]int{}, made: map[*term][]api.Type{}}
	for i, v := range k.of.variables(k.level) {
		w.numbers[v] = i
	}
	var preds []string
	for _, p := range k.preds {
		class := api.Type{Kind: api.TCon, Name: shortName(p.class)}
		preds = append(preds, unify.Text(api.Type{Kind: api.TApp, Subs: []api.Type{class, w.write(p.of)}}))
	}
	// A blank comes before all that names of classes consist of, so that this
	// is the order of the names first.
	slices.Sort(preds)
	text := unify.Text(w.write(k.of))
	switch len(preds) {
	case 0:
		return text
	case 1:
		return preds[0] + " => " + text
	}
	return "(" + strings.Join(preds, ", ") + ") => " + text
}

// variableName is a, b, .., z, a1, b1, .., from 0 on.
func variableName(number int) string {
	letter := string(rune('a' + number%26))
	if number < 26 {
		return letter
	}
	return letter + strconv.Itoa(number/26)
}

// shortName is the name of a class or type without its module.
func shortName(name string) string {
	_, short, _ := strings.Cut(name, ".")
	return short
}

// writer makes types of terms.
type writer struct {
	numbers map[*term]int        // those of the variables
	made    map[*term][]api.Type // the parts of what has been made
}

// gap is a place at which the type of a term is missing.
type gap struct {
	of   *term
	into *api.Type
}

// write makes the parts of what occurs several times once: the types of preds
// may be far greater than those of names.
func (w *writer) write(t *term) api.Type {
	var root api.Type
	left := []gap{{of: t, into: &root}}
	for len(left) > 0 {
		last := left[len(left)-1]
		left = left[:len(left)-1]
		of := last.of.find()
		last.into.Kind = of.kind
		switch of.kind {
		case api.TVar:
			last.into.Name = variableName(w.numbers[of])
		case api.TCon:
			last.into.Name = writtenName(of.name)
		case api.TApp:
			parts := w.made[of]
			if parts == nil {
				parts = make([]api.Type, 2)
				w.made[of] = parts
				left = append(left, gap{of: of.parts[1], into: &parts[1]}, gap{of: of.parts[0], into: &parts[0]})
			}
			last.into.Subs = parts
		}
	}
	return root
}

// writtenName leaves the types of Prim as package unify knows them.
func writtenName(name string) string {
	if strings.HasPrefix(name, "Prim.") {
		return name
	}
	return shortName(name)
}
