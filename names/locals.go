package names

import (
	"strconv"

	"teasel/api"
)

// local is what a name is bound to in a scope within a declaration.
type local struct {
	number int // 0: nothing
	scope  int // which scope it is
}

// hidden is what a name was bound to outside a scope that binds it anew.
type hidden struct {
	name  string
	local local
}

// locals are the local bindings at the place that the resolver has come to.
// No name is ever removed from the map: leaving a scope brings back what it
// has hidden, be it nothing. So finding a name takes no longer in deep scopes.
type locals struct {
	innermost map[string]local
	hidden    []hidden
	scopes    int // how many there have been
}

// number is that of the innermost binding of a name; 0 if there is none.
func (l *locals) number(name string) int {
	return l.innermost[name].number
}

// enter begins a scope with what a List of declarations, or patterns, bind,
// and gives these nodes their resolved names. It tells those that repeat a
// name.
func (l *locals) enter(part *api.Node, repeats func(api.Node)) {
	l.scopes++
	eachBound(part, func(n *api.Node) {
		before := l.innermost[n.Name]
		if before.scope == l.scopes {
			repeats(*n)
		}
		l.hidden = append(l.hidden, hidden{name: n.Name, local: before})
		l.innermost[n.Name] = local{number: n.N, scope: l.scopes}
		n.Name, n.N = localName(n.Name, n.N), 0
	})
}

// leave ends the scopes that were entered since so many names were hidden.
func (l *locals) leave(count int) {
	for i := len(l.hidden) - 1; i >= count; i-- {
		l.innermost[l.hidden[i].name] = l.hidden[i].local
	}
	l.hidden = l.hidden[:count]
}

func localName(name string, number int) string {
	return name + "." + strconv.Itoa(number)
}
