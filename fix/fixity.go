package fix

import "teasel/api"

// To which side operators of one level are grouped.
const (
	noSide    = iota // there is no operator
	leftSide         // infixl
	rightSide        // infixr
	neither          // infix, or operators that clash
)

const (
	levelCount   = 10
	highestLevel = levelCount - 1
	consName     = "Prim.:"
	consLevel    = 5
)

// fixity is how an operator is grouped with others.
type fixity struct {
	side  int
	level int
}

// before says whether an operator takes the operand between it and the next
// one, if the two do not clash.
func (f fixity) before(next fixity) bool {
	return f.level > next.level || f.level == next.level && f.side == leftSide
}

// fixities is those of all operators that have one of their own, by their
// resolved names.
type fixities map[string]fixity

func newFixities() fixities {
	return fixities{consName: {side: rightSide, level: consLevel}}
}

// of is the fixity of an operator.
func (f fixities) of(op api.Node) fixity {
	if own, found := f[op.Name]; found {
		return own
	}
	return fixity{side: leftSide, level: highestLevel}
}

// declare adds the operators of a DFix, and tells those that have a fixity
// already: they keep it. An operator is named by DFixes of its own module
// alone, so that those of other modules are none of these.
func (f fixities) declare(n api.Node, again func(op api.Node)) {
	for _, op := range n.Subs[0].Subs {
		if _, found := f[op.Name]; found {
			again(op)
			continue
		}
		f[op.Name] = fixity{side: sideOf(n.Name), level: n.N}
	}
}

func sideOf(keyword string) int {
	switch keyword {
	case "infixl":
		return leftSide
	case "infixr":
		return rightSide
	}
	return neither
}

// levels is, by levels, the side of those operators of a sequence that have
// come and have no operator of a lower level behind them.
type levels [levelCount]int

// clashes says whether the next operator of a sequence clashes with one that
// has come. If so, each further one of that level does too: it cannot be on
// the side of both.
func (l *levels) clashes(next fixity) bool {
	clear(l[next.level+1:])
	side := l[next.level]
	if side == noSide {
		l[next.level] = next.side
		return false
	}
	if side == next.side && side != neither {
		return false
	}
	l[next.level] = neither
	return true
}
