package names

import "teasel/api"

// resolver replaces the names of one module.
type resolver struct {
	program  *program
	module   *module
	imported scope
	locals   locals
	report   func(number api.Errno, at api.Node)
}

func newResolver(p *program, m *module, imported scope, report func(api.Errno, api.Node)) *resolver {
	return &resolver{program: p, module: m, imported: imported, locals: locals{innermost: map[string]local{}}, report: report}
}

// declarations is for those of the module itself.
func (r *resolver) declarations(all []api.Node) {
	for i := range all {
		switch d := &all[i]; d.Kind {
		case api.DFun, api.DPat:
			eachBound(d, r.qualify)
		}
		r.tree(&all[i])
	}
}

// qualify replaces the name of a node that binds an own entity.
func (r *resolver) qualify(n *api.Node) {
	n.Name = r.module.own[keyOf(*n)].qualified()
}

// visit is a node whose children are being resolved.
type visit struct {
	node    *api.Node
	next    int // which child is
	outside int // how many names were hidden ahead of it
}

// tree replaces the names in a tree. The nodes that it is in are kept on a
// stack: trees may be too deep for calls within calls.
func (r *resolver) tree(root *api.Node) {
	within := []visit{r.begin(root)}
	for len(within) > 0 {
		last := &within[len(within)-1]
		if last.next == len(last.node.Subs) {
			r.end(*last)
			within = within[:len(within)-1]
			continue
		}
		last.next++
		within = append(within, r.begin(&last.node.Subs[last.next-1]))
	}
}

// begin replaces what a node names, ahead of its children.
func (r *resolver) begin(n *api.Node) visit {
	v := visit{node: n, outside: len(r.locals.hidden)}
	r.rename(n)
	r.enter(n)
	return v
}

// end leaves the scopes within a node. Those of statements go on in the ones
// behind them: the EDo leaves them.
func (r *resolver) end(v visit) {
	switch v.node.Kind {
	case api.SGen:
		r.locals.enter(&v.node.Subs[0], r.repeats) // its own expression does not see them
	case api.SLet:
	default:
		r.locals.leave(v.outside)
	}
}

// enter begins the scope of a node, if it has one.
func (r *resolver) enter(n *api.Node) {
	switch n.Kind {
	case api.DClause, api.ELam, api.EAlt, api.ELet, api.SLet:
		r.locals.enter(&n.Subs[0], r.repeats)
	case api.DRhs:
		r.locals.enter(&n.Subs[1], r.repeats)
	}
}

func (r *resolver) repeats(n api.Node) {
	r.report(api.ErrTwice, n)
}

// rename replaces the name of a node, and those in it whose meaning the node
// settles.
func (r *resolver) rename(n *api.Node) {
	switch n.Kind {
	case api.EVar, api.EOp:
		r.value(n)
	case api.ECon, api.PCon:
		r.global(n)
	case api.EMake, api.PMake:
		r.record(n)
	case api.EPut:
		r.update(n)
	case api.EDo:
		r.statements(n)
	case api.TCon:
		r.typeOf(n, api.DData)
	case api.DPred:
		r.typeOf(n, api.DClass)
	case api.DData:
		r.data(n)
	case api.DInst:
		r.instance(n)
	case api.DFix:
		r.fixity(n)
	case api.DCon, api.DField, api.DClass, api.DMethod:
		r.qualify(n)
	}
}

// entityOf is the entity that a name refers to, if it is exactly one; local
// bindings are ignored.
func (r *resolver) entityOf(n api.Node) (entity, bool) {
	k := keyOf(n)
	if own, found := r.module.own[k]; found {
		return own, true
	}
	imported, found := r.imported[k]
	if !found {
		r.report(api.ErrUnknown, n)
		return entity{}, false
	}
	if imported.several {
		r.report(api.ErrMany, n)
		return entity{}, false
	}
	return imported.entity, true
}

// value is for an EVar, or an EOp, which may be a constructor too.
func (r *resolver) value(n *api.Node) {
	if number := r.locals.number(n.Name); number > 0 {
		n.Name = localName(n.Name, number)
		return
	}
	r.global(n)
}

// global replaces a name by that of the entity that it refers to.
func (r *resolver) global(n *api.Node) (entity, bool) {
	e, found := r.entityOf(*n)
	if found {
		n.Name = e.qualified()
	}
	return e, found
}

// record is for an EMake or PMake: its fields are those of its constructor,
// whatever their names mean here.
func (r *resolver) record(n *api.Node) {
	r.once(n.Subs)
	con, found := r.global(n)
	if !found {
		return
	}
	own := r.program.byName[con.module].own
	for i := range n.Subs {
		r.part(&n.Subs[i], own, api.DField, con.name)
	}
}

// part replaces a name by that of an entity of this kind which belongs to that
// owner.
func (r *resolver) part(n *api.Node, among map[key]entity, kind int, owner string) {
	e := among[keyOf(*n)]
	if e.kind != kind || e.owner != owner {
		r.report(api.ErrUnknown, *n)
		return
	}
	n.Name = e.qualified()
}

// update is for an EPut: its first child is what has the fields.
func (r *resolver) update(n *api.Node) {
	fields := n.Subs[1:]
	r.once(fields)
	for i := range fields {
		e, found := r.global(&fields[i])
		if found && e.kind != api.DField {
			r.report(api.ErrUnknown, fields[i])
		}
	}
}

// statements is for an EDo, which means what the Prelude's operator does.
func (r *resolver) statements(n *api.Node) {
	if !r.program.hasBind() {
		r.report(api.ErrUnknown, *n)
	}
}

// once reports the nodes that repeat the name of an earlier one, and counts
// the names.
func (r *resolver) once(nodes []api.Node) map[string]int {
	counts := map[string]int{}
	for _, n := range nodes {
		if counts[n.Name] > 0 {
			r.repeats(n)
		}
		counts[n.Name]++
	}
	return counts
}
