package core

import (
	"math"

	"teasel/api"
)

// Bounds of what is looked at and answered.
const (
	mostBytes  = 1<<31 - 1 // of an answer
	mostLevels = 1 << 17   // so that calls within calls will do
	mostSteps  = 1 << 20   // ahead of the first note that one has been somewhere
)

// The bytes that a copy takes: an Expr, an Alt and a Bind beside the Expr in
// them, a name.
const (
	exprBytes = 136
	altBytes  = 56
	bindBytes = 16
	nameBytes = 16
)

func children(e *api.Expr) int { return len(e.Subs) + len(e.Binds) + len(e.Alts) }

func child(e *api.Expr, i int) *api.Expr {
	if i < len(e.Subs) {
		return &e.Subs[i]
	}
	i -= len(e.Subs)
	if i < len(e.Binds) {
		return &e.Binds[i].Expr
	}
	return &e.Alts[i-len(e.Binds)].Body
}

// extent is how great an expression is, with all that is in it.
type extent struct {
	size, depth int
	bytes       int // of a copy, which shares no memory
	binders     int
}

// ownExtent is without the children.
func ownExtent(e *api.Expr) extent {
	names := len(e.Names)
	for i := range e.Alts {
		names += len(e.Alts[i].Names)
	}
	x := extent{size: 1, depth: 1, binders: names + len(e.Binds)}
	x.bytes = exprBytes + altBytes*len(e.Alts) + bindBytes*len(e.Binds) + nameBytes*names
	if e.Kind == api.Case {
		x.binders++
	}
	return x
}

// add is for one more child.
func (x *extent) add(child extent) {
	x.size = sum(x.size, child.size)
	x.depth = max(x.depth, 1+child.depth)
	x.bytes = sum(x.bytes, child.bytes)
	x.binders = sum(x.binders, child.binders)
}

// sum stays at the greatest number, beyond which expressions may be that share
// memory.
func sum(a, b int) int {
	if a > math.MaxInt-b {
		return math.MaxInt
	}
	return a + b
}

// measurer measures expressions. Most share no memory, and notes would cost
// more than the measuring; so it makes them only after some steps, from when on
// it measures nothing again.
type measurer struct {
	patience int // how many steps there are left ahead of the first note
	known    map[*api.Expr]extent
	order    []*api.Expr // those that are known, each behind its children
}

func newMeasurer(patience int) *measurer {
	return &measurer{patience: patience, known: map[*api.Expr]extent{}}
}

// stay is an expression on the way, and how many of its children are behind.
type stay struct {
	at     *api.Expr
	behind int
	all    extent
}

// measure is false for an expression with too many levels.
func (m *measurer) measure(root *api.Expr) (extent, bool) {
	path := []stay{{at: root, all: ownExtent(root)}}
	for {
		last := &path[len(path)-1]
		if last.behind == children(last.at) {
			m.note(last.at, last.all)
			path = path[:len(path)-1]
			if len(path) == 0 {
				return last.all, true
			}
			path[len(path)-1].all.add(last.all)
			continue
		}
		next := child(last.at, last.behind)
		last.behind++
		m.patience--
		if children(next) == 0 {
			last.all.add(ownExtent(next))
		} else if x, found := m.known[next]; found {
			last.all.add(x)
		} else if len(path) == mostLevels {
			return extent{}, false
		} else {
			path = append(path, stay{at: next, all: ownExtent(next)})
		}
	}
}

func (m *measurer) note(e *api.Expr, x extent) {
	if m.patience > 0 {
		return
	}
	if _, found := m.known[e]; !found {
		m.known[e] = x
		m.order = append(m.order, e)
	}
}
