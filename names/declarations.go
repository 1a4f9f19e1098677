package names

import "teasel/api"

// typeOf replaces the name of a type or class, which must be of this kind, and
// is the entity, if it is.
func (r *resolver) typeOf(n *api.Node, kind int) (entity, bool) {
	e, found := r.entityOf(*n)
	if !found {
		return entity{}, false
	}
	if e.kind != kind {
		r.report(api.ErrUnknown, *n)
		return entity{}, false
	}
	n.Name = e.qualified()
	return e, true
}

// data is for a DData: its constructors use its parameters alone.
func (r *resolver) data(n *api.Node) {
	r.qualify(n)
	parameters := r.once(n.Subs[0].Subs)
	eachTypeVariable(&n.Subs[1], func(v api.Node) {
		r.among(parameters, v)
	})
}

// among reports a type variable that is none of these.
func (r *resolver) among(names map[string]int, v api.Node) {
	if names[v.Name] == 0 {
		r.report(api.ErrUnknown, v)
	}
}

// instance is for a DInst: its preds use the variables of its type alone, and
// its functions are methods of its class, whatever their names mean here.
func (r *resolver) instance(n *api.Node) {
	preds, functions := n.Subs[0].Subs, n.Subs[2].Subs
	var variables []api.Node
	eachTypeVariable(&n.Subs[1], func(v api.Node) { variables = append(variables, v) })
	arguments := r.once(variables)
	for _, pred := range preds {
		r.among(arguments, pred.Subs[0])
	}
	r.once(functions)
	class, found := r.typeOf(n, api.DClass)
	if !found {
		return
	}
	own := r.program.byName[class.module].own
	for i := range functions {
		r.part(&functions[i], own, api.DMethod, class.name)
	}
}

// fixity is for a DFix: its operators are the module's own.
func (r *resolver) fixity(n *api.Node) {
	for _, op := range n.Subs[0].Subs {
		if _, found := r.module.own[keyOf(op)]; !found {
			r.report(api.ErrUnknown, op)
		}
	}
}
