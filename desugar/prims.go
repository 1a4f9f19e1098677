package desugar

import "teasel/api"

// The constructors that tuples and lists stand for.
const (
	pairName   = "Prim.(,)"
	tripleName = "Prim.(,,)"
	emptyName  = "Prim.[]"
	linkName   = "Prim.:"
)

func primCons() []api.Cons {
	return []api.Cons{
		{Name: api.False, Arity: 0, Tag: 0, Family: 2},
		{Name: api.True, Arity: 0, Tag: 1, Family: 2},
		{Name: api.Unit, Arity: 0, Tag: 0, Family: 1},
		{Name: pairName, Arity: 2, Tag: 0, Family: 1},
		{Name: tripleName, Arity: 3, Tag: 0, Family: 1},
		{Name: emptyName, Arity: 0, Tag: 0, Family: 2},
		{Name: linkName, Arity: 2, Tag: 1, Family: 2},
		{Name: api.Box, Arity: 1, Tag: 0, Family: 1},
	}
}

// operations is the values of Prim that are operations of Core on two numbers.
var operations = []struct {
	name string
	op   int
}{
	{"Prim.primAdd", api.Add},
	{"Prim.primSub", api.Minus},
	{"Prim.primMul", api.Mul},
	{"Prim.primQuot", api.Quot},
	{"Prim.primRem", api.Rem},
	{"Prim.primEq", api.Eq},
	{"Prim.primLt", api.Lt},
	{"Prim.primLe", api.Le},
}

// prims binds the values of Prim. An IO takes the unit, and answers a box.
func (t *translator) prims() {
	for _, o := range operations {
		names := t.several(2)
		t.bind(o.name, lam(prim(o.op, variables(names...)...), names...))
	}
	t.bind("Prim.primRaise", raise())

	x, unit := t.fresh(), t.fresh()
	t.bind("Prim.primReturn", lam(con(api.Box, variable(x)), x, unit))
	unit = t.fresh()
	t.bind("Prim.primGet", lam(t.perform(prim(api.Get)), unit))
	x, unit = t.fresh(), t.fresh()
	t.bind("Prim.primPut", lam(t.perform(prim(api.Put, variable(x))), x, unit))

	m, k, result := t.fresh(), t.fresh(), t.fresh()
	unit = t.fresh()
	first := app(variable(m), variable(unit))
	then := app(variable(k), variable(result), variable(unit))
	t.bind("Prim.primBind", lam(t.take(first, t.cons[api.Box], then, result), m, k, unit))

	a, b := t.fresh(), t.fresh()
	t.bind("Prim.primSeq", lam(t.look(variable(a), otherwise(variable(b))), a, b))
}

// perform is the box of what an operation answers, which it does first.
func (t *translator) perform(operation api.Expr) api.Expr {
	e := t.look(operation)
	e.Alts = []api.Alt{otherwise(con(api.Box, variable(e.Name)))}
	return e
}
