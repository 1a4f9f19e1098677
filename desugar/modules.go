package desugar

import (
	"teasel/api"
	"teasel/typing"
)

// translate binds all that modules declare, and what main takes. What they tell
// of constructors and classes comes first, as declarations may stand in any
// order; what all of it turns out to need comes last.
func (t *translator) translate(mainArgs []*typing.Arg) {
	for _, c := range primCons() {
		t.addCon(c)
	}
	trees := t.program.Trees
	for i := range trees {
		t.declarations(&trees[i], t.types)
	}
	t.prims()
	if t.byTypes {
		t.typeValues()
	}
	for i := range trees {
		t.declarations(&trees[i], t.values)
	}
	if t.mainTakes {
		t.bind(api.Main, app(variable(mainFunction), t.args(mainArgs)...))
	}
	if t.compares {
		t.bind(sameText, t.comparison())
	}
	t.out.Binds = append(t.out.Binds, t.scopes[nil].binds...)
}

func (t *translator) declarations(tree *api.Node, do func(d *api.Node)) {
	t.module = tree.Name
	for i := range tree.Subs[2].Subs {
		do(&tree.Subs[2].Subs[i])
	}
}

func (t *translator) addCon(c api.Cons) {
	t.cons[c.Name] = c
	t.out.Cons = append(t.out.Cons, c)
}

// types adds the constructors of a DData, or that of the dictionaries of a DClass.
func (t *translator) types(d *api.Node) {
	switch d.Kind {
	case api.DData:
		family := d.Subs[1].Subs
		for tag := range family {
			c := &family[tag]
			t.addCon(api.Cons{Name: c.Name, Arity: len(c.Subs[0].Subs), Tag: tag, Family: len(family)})
			t.addPlaces(c)
		}
	case api.DClass:
		var methods []string
		for _, m := range d.Subs[1].Subs {
			methods = append(methods, m.Name)
		}
		t.methods[d.Name] = methods
		t.numbers[d.Name] = len(t.numbers)
		t.addCon(api.Cons{Name: dictionary(d.Name), Arity: len(methods), Family: 1})
	}
}

func (t *translator) addPlaces(c *api.Node) {
	for i := range c.Subs[0].Subs {
		if f := &c.Subs[0].Subs[i]; f.Kind == api.DField {
			t.places[f.Name] = place{con: c.Name, at: i}
		}
	}
}

// values binds what a declaration at the top stands for.
func (t *translator) values(d *api.Node) {
	switch d.Kind {
	case api.DData:
		for i := range d.Subs[1].Subs {
			c := &d.Subs[1].Subs[i]
			for j := range c.Subs[0].Subs {
				if f := &c.Subs[0].Subs[j]; f.Kind == api.DField {
					t.selector(f.Name, c.Name, j, variable)
				}
			}
		}
	case api.DClass:
		for at, method := range t.methods[d.Name] {
			t.selector(method, dictionary(d.Name), at, func(x string) api.Expr { return t.dictionaryOf(d.Name, x) })
		}
	case api.DInst:
		t.bind(instance(d.Name, headOf(&d.Subs[1])), t.dictionary(d))
	default:
		t.out.Binds = append(t.out.Binds, t.bindsOf(d)...)
	}
}

// headOf is the constructor at which a type starts.
func headOf(tree *api.Node) string {
	for tree.Kind == api.TApp {
		tree = &tree.Subs[0]
	}
	return tree.Name
}

// selector binds the function that selects a field of a constructor, which is
// found by what the function is given.
func (t *translator) selector(name, con string, at int, find func(given string) api.Expr) {
	c, x := t.cons[con], t.fresh()
	names := t.fieldsOf(c)
	if !t.spend(4) {
		return
	}
	t.bind(t.name(name), lam(t.take(find(x), c, variable(names[at]), names...), x))
}

// dictionary is that of a DInst.
func (t *translator) dictionary(d *api.Node) api.Expr {
	params := t.program.Params[d]
	var s *scope
	if params != nil {
		s = t.open(params)
	}
	methods := map[string]*api.Node{}
	for i := range d.Subs[2].Subs {
		methods[d.Subs[2].Subs[i].Name] = &d.Subs[2].Subs[i]
	}
	var fields []api.Expr
	for _, name := range t.methods[d.Name] {
		if method := methods[name]; method != nil {
			fields = append(fields, t.function(method))
		} else if t.spend(1) {
			fields = append(fields, raise())
		}
		if t.isFull() {
			break
		}
	}
	e := con(dictionary(d.Name), fields...)
	if s == nil {
		return e
	}
	return lam(let(e, s.binds...), s.names...)
}
