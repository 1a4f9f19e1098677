package desugar

import (
	"strconv"

	"teasel/api"
	"teasel/typing"
)

// mainFunction is what main is called if it takes something for its preds, as the
// program is run from what has its name. No value of a module is called so.
const mainFunction = api.Main + "#"

// place is a field's constructor, and which of its fields it is.
type place struct {
	con string
	at  int
}

// translator translates modules.
type translator struct {
	program   *typing.Program
	byTypes   bool   // whether names take types, and no dictionaries
	mainTakes bool   // whether main takes some
	module    string // the name of the one that is being translated
	out       api.Program
	cons      map[string]api.Cons
	places    map[string]place                   // of DFields
	methods   map[string][]string                // of DClasses
	numbers   map[string]int                     // of DClasses, if names take types
	how       map[int]func(n *api.Node) api.Expr // how an expression is translated, by its kind
	scopes    map[*typing.Params]*scope          // where Args are bound, by those that are taken there
	others    map[string]called                  // what stands for the variables of patterns
	compares  bool                               // whether texts are compared
	next      int                                // the number of the next fresh name
	nodes     int                                // how many nodes the program has, at least
	fields    int                                // how many names fields have in alternatives
}

func newTranslator(p *typing.Program, takes int, mainTakes bool) *translator {
	t := &translator{
		program:   p,
		byTypes:   takes == typing.Types,
		mainTakes: mainTakes,
		cons:      map[string]api.Cons{},
		places:    map[string]place{},
		methods:   map[string][]string{},
		numbers:   map[string]int{},
		others:    map[string]called{},
		scopes:    map[*typing.Params]*scope{},
		next:      1,
	}
	t.scopes[nil] = newScope()
	if p.TooMany {
		t.spend(api.MaxNodes + 1)
	}
	t.how = map[int]func(n *api.Node) api.Expr{
		api.EVar:   func(n *api.Node) api.Expr { return t.value(n) },
		api.ECon:   func(n *api.Node) api.Expr { return t.construct(n.Name) },
		api.EInt:   func(n *api.Node) api.Expr { return number(n.N) },
		api.EStr:   func(n *api.Node) api.Expr { return t.text(n.Name) },
		api.EApp:   t.application,
		api.ELam:   t.lambda,
		api.EIf:    t.choice,
		api.ECase:  t.cases,
		api.EDo:    t.action,
		api.ETup:   t.tuple,
		api.EList:  func(n *api.Node) api.Expr { return list(t.each(n.Subs)) },
		api.ELeft:  func(n *api.Node) api.Expr { return t.call(&n.Subs[1], t.expression(&n.Subs[0])) },
		api.ERight: t.right,
		api.EMake:  t.record,
		api.EPut:   t.update,
	}
	return t
}

// fresh is a name that nothing else has. It is named as package match names what
// it makes, so that one count does for both.
func (t *translator) fresh() string {
	t.next++
	return "m#" + strconv.Itoa(t.next-1)
}

func (t *translator) several(count int) []string {
	names := make([]string, count)
	for i := range names {
		names[i] = t.fresh()
	}
	return names
}

// fieldsOf is fresh names for the fields of a constructor, or none once there
// are too many.
func (t *translator) fieldsOf(c api.Cons) []string {
	t.fields += c.Arity
	if t.isFull() {
		return nil
	}
	return t.several(c.Arity)
}

// spend counts nodes that the program will have, and says whether there are not
// too many yet. So what would be far too great is not made.
func (t *translator) spend(nodes int) bool {
	t.nodes += nodes
	return !t.isFull()
}

// isFull says whether what is made is of no use, as there will be an error.
func (t *translator) isFull() bool { return t.errno() != api.OK }

// errno is the error of a program that is not made to its end. If no constructor
// has too many fields, there are too many nodes ahead of too many names.
func (t *translator) errno() api.Errno {
	switch {
	case t.nodes > api.MaxNodes:
		return api.ErrBig
	case t.fields > api.MaxNodes*api.MaxArity:
		return api.ErrCons
	}
	return api.OK
}

// bind binds a name at the top.
func (t *translator) bind(name string, e api.Expr) {
	t.out.Binds = append(t.out.Binds, api.Bind{Name: name, Expr: e})
}

// name is what a value is called in the program. Qualified names begin with the
// name of a module, which begins with a great letter; the names of local values
// don't, and are only unique in their module.
func (t *translator) name(name string) string {
	switch {
	case name == api.Main && t.mainTakes:
		return mainFunction
	case 'A' <= name[0] && name[0] <= 'Z':
		return name
	}
	return t.other(t.module + "." + name)
}

// other is the other name that stands for a local one, if one does.
func (t *translator) other(name string) string {
	if o, found := t.others[name]; found {
		return o.name
	}
	return name
}
