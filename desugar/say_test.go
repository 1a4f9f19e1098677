package desugar_test

import (
	"strconv"
	"strings"

	"teasel/api"
)

// say is an expression as a text; it only tells the sorts that tests look at.
func say(e api.Expr) string {
	switch e.Kind {
	case api.Var:
		return e.Name
	case api.Lit:
		return strconv.Itoa(e.N)
	case api.Lam:
		return "\\" + strings.Join(e.Names, " ") + " -> " + say(e.Subs[0])
	case api.App:
		return say(e.Subs[0]) + "(" + sayAll(e.Subs[1:]) + ")"
	case api.Con:
		return e.Name + "{" + sayAll(e.Subs) + "}"
	case api.Prim:
		return "prim" + strconv.Itoa(e.Op) + "(" + sayAll(e.Subs) + ")"
	case api.Let:
		var binds []string
		for _, b := range e.Binds {
			binds = append(binds, b.Name+" = "+say(b.Expr))
		}
		return "let {" + strings.Join(binds, "; ") + "} in " + say(e.Subs[0])
	}
	var alts []string
	for _, a := range e.Alts {
		alts = append(alts, []string{"", a.Name + " " + strings.Join(a.Names, " "), strconv.Itoa(a.N), "_"}[a.Kind]+" -> "+say(a.Body))
	}
	return "case " + say(e.Subs[0]) + " of " + e.Name + " {" + strings.Join(alts, "; ") + "}"
}

func sayAll(all []api.Expr) string {
	var parts []string
	for _, e := range all {
		parts = append(parts, say(e))
	}
	return strings.Join(parts, ", ")
}

// sayProgram is a program as a text.
func sayProgram(p api.Program) string {
	var lines []string
	for _, c := range p.Cons {
		lines = append(lines, c.Name+" "+strconv.Itoa(c.Arity)+" "+strconv.Itoa(c.Tag)+" "+strconv.Itoa(c.Family))
	}
	for _, b := range p.Binds {
		lines = append(lines, b.Name+" = "+say(b.Expr))
	}
	return strings.Join(lines, "\n")
}
