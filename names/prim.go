package names

import "teasel/api"

// prim is the module that has no tree. The names that the grammar creates are
// among its entities, since they are nobody else's. That False and True belong
// to Bool is not told: all constructors of Prim are always in scope.
func prim() *module {
	m := &module{name: primName, own: map[key]entity{}, placed: true}
	m.addPrim(api.DFun, "primAdd", "primSub", "primMul", "primQuot", "primRem", "primEq", "primLt", "primLe",
		"primGet", "primPut", "primReturn", "primBind", "primSeq", "primRaise")
	m.addPrim(api.DCon, "False", "True", "()", "(,)", "(,,)", ":")
	m.addPrim(api.DData, "Int", "Bool", "IO", "[]", "()", "(,)", "(,,)", "->")
	m.exported = m.own
	return m
}

// addPrim adds entities that are as if nodes of that kind bound them.
func (m *module) addPrim(kind int, names ...string) {
	for _, name := range names {
		k := keyOf(api.Node{Kind: kind, Name: name})
		m.own[k] = entity{key: k, module: m.name, kind: kind}
	}
}
