package desugar

import (
	"slices"

	"teasel/api"
	"teasel/typing"
)

// mainArgs is what main takes as an IO of an Int, or what is wrong with it.
func mainArgs(p *typing.Program) ([]*typing.Arg, api.Diag) {
	i := slices.IndexFunc(p.Trees, func(tree api.Node) bool { return tree.Name == "Main" })
	if i < 0 {
		return nil, api.Diag{Number: api.ErrMain}
	}
	tree := &p.Trees[i]
	wrong := api.Diag{File: tree.Name, Line: tree.Line, Col: tree.Col, Number: api.ErrMain}
	d := mainDeclaration(tree)
	if d == nil {
		return nil, wrong
	}
	args, ok := p.Action(api.Main)
	if !ok {
		wrong.Line, wrong.Col = d.Line, d.Col
		return nil, wrong
	}
	return args, api.Diag{}
}

// mainDeclaration is where a module declares main, or nil.
func mainDeclaration(tree *api.Node) *api.Node {
	for i := range tree.Subs[2].Subs {
		d := &tree.Subs[2].Subs[i]
		switch d.Kind {
		case api.DFun, api.DPat:
			if slices.Contains(typing.Bound(d), api.Main) {
				return d
			}
		case api.DClass:
			if method := named(&d.Subs[1], api.Main); method != nil {
				return method
			}
		case api.DData:
			for j := range d.Subs[1].Subs {
				if field := named(&d.Subs[1].Subs[j].Subs[0], api.Main); field != nil {
					return field
				}
			}
		}
	}
	return nil
}

// named is the DMethod or DField of a List that has a name, or nil. The other
// things that such Lists hold are types, which are not named like values.
func named(list *api.Node, name string) *api.Node {
	for i := range list.Subs {
		if list.Subs[i].Name == name {
			return &list.Subs[i]
		}
	}
	return nil
}
