package desugar

import (
	"slices"

	"teasel/api"
)

// If names take types in place of dictionaries, a type is a pair at run time: of
// the dictionaries that there are for it as it is, by the numbers of their classes,
// and of what makes the type that it is with an argument (as Maybe has one of Monad
// itself, and makes types that have one of Eq). So a name takes no more than there
// are variables in its type, however many preds it has; and a dictionary is made
// once for each type, as it is if it is taken itself.

// What is bound in Prim for types: what applies one to its argument, one that has
// no instances, and what finds the dictionary of a class, of a type and among
// several. Nothing else of Prim is called so.
const (
	applyType   = "Prim.applied"
	unknownType = "Prim.unknown"
	ofType      = "Prim.ofType"
	among       = "Prim.among"
)

// typeValue is what a constructor of types is called.
func typeValue(con string) string { return con + "#" }

// typeValues binds what types are made of, and what is done with them.
func (t *translator) typeValues() {
	pair, triple := t.cons[pairName], t.cons[tripleName]
	dicts, more := t.fresh(), t.fresh()
	of, argument := t.fresh(), t.fresh()
	t.bind(applyType, lam(t.take(variable(of), pair, app(variable(more), variable(argument)), dicts, more), of, argument))
	t.bind(unknownType, raise())

	dicts, more = t.fresh(), t.fresh()
	of, class := t.fresh(), t.fresh()
	t.bind(ofType, lam(t.take(variable(of), pair, app(variable(among), variable(dicts), variable(class)), dicts, more), of, class))

	first, dict, others := t.fresh(), t.fresh(), t.fresh()
	dicts, class = t.fresh(), t.fresh()
	further := app(variable(among), variable(others), variable(class))
	found := t.conditional(prim(api.Eq, variable(first), variable(class)), variable(dict), further)
	t.bind(among, lam(t.take(variable(dicts), triple, found, first, dict, others), dicts, class))

	t.constructors()
}

// constructors binds the constructors of types that have instances.
func (t *translator) constructors() {
	insts := map[string][]*api.Node{}
	var order []string
	trees := t.program.Trees
	for i := range trees {
		t.declarations(&trees[i], func(d *api.Node) {
			if d.Kind != api.DInst {
				return
			}
			con := headOf(&d.Subs[1])
			if len(insts[con]) == 0 {
				order = append(order, con)
			}
			insts[con] = append(insts[con], d)
		})
	}
	for _, con := range order {
		t.bind(typeValue(con), t.constructor(insts[con]))
	}
}

// constructor is one with some instances, all that there are of it.
func (t *translator) constructor(insts []*api.Node) api.Expr {
	var byCount [][]*api.Node // by how many arguments it has there
	for _, d := range insts {
		count := argumentsOf(&d.Subs[1])
		for len(byCount) <= count && t.spend(2) {
			byCount = append(byCount, nil)
		}
		if !t.spend(2 + count) {
			return raise()
		}
		byCount[count] = append(byCount[count], d)
	}
	names := t.several(len(byCount) - 1)
	e := raise()
	for count, some := range slices.Backward(byCount) {
		dicts := raise()
		for _, d := range slices.Backward(some) {
			dict := app(variable(instance(d.Name, headOf(&d.Subs[1]))), variables(names[:count]...)...)
			dicts = con(tripleName, number(t.numbers[d.Name]), dict, dicts)
		}
		e = con(pairName, dicts, e)
		if count > 0 {
			e = lam(e, names[count-1])
		}
	}
	return e
}

// argumentsOf is how many arguments the constructor of a type has.
func argumentsOf(tree *api.Node) int {
	count := 0
	for ; tree.Kind == api.TApp; tree = &tree.Subs[0] {
		count++
	}
	return count
}

// dictionaryOf is the dictionary of a class that is given, or that of a type that
// is.
func (t *translator) dictionaryOf(class, given string) api.Expr {
	if t.byTypes && t.spend(3) {
		return app(variable(ofType), variable(given), number(t.numbers[class]))
	}
	return variable(given)
}
