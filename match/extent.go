package match

import (
	"slices"

	"teasel/api"
	"teasel/core"
)

// Bounds of what is looked at and answered.
const (
	mostBytes  = 1<<31 - 1 // of an answer
	mostLevels = 1 << 17   // so that calls within calls will do
)

// The bytes that parts of an answer take: an Expr, an Alt and a Bind beside the
// Expr in them, a name.
const (
	exprBytes = 136
	altBytes  = 56
	bindBytes = 16
	nameBytes = 16

	letBytes     = 2*exprBytes + bindBytes // of x = Var c
	failureBytes = 3*exprBytes + altBytes  // of a Default with the continuation
	numberBytes  = 2*exprBytes + altBytes + failureBytes
	goOnBytes    = 2*exprBytes + bindBytes + nameBytes // of f = Lam [d]
)

// extent is what becomes of patterns that are right.
type extent struct {
	sure  bool // whether all are irrefutable
	bytes int  // of the expression, but for what follows; it stays at mostBytes + 1
}

func (x extent) and(y extent) extent {
	return extent{sure: x.sure && y.sure, bytes: sum(x.bytes, y.bytes)}
}

func sum(a, b int) int { return min(a+b, mostBytes+1) }

// caseBytes is of a Case that looks for a constructor.
func caseBytes(c api.Cons) int {
	bytes := 2*exprBytes + altBytes + nameBytes*min(max(c.Arity, 0), mostBytes)
	if c.Family != 1 {
		bytes += failureBytes
	}
	return bytes
}

// bodyBytes is of a copy of a Body, or no less than mostBytes + 1 for one that
// has too many levels for core to tell.
func bodyBytes(body api.Expr) int {
	size := core.Size(body)
	if size == 0 || size > mostBytes/exprBytes {
		return mostBytes + 1
	}
	return exprBytes*size + nameBytes*len(core.Binders(body))
}

// rowsAhead is how many rows may go on with the next one until one can't. It is
// false if the expression for all of these is greater than an answer may be.
func rowsAhead(rows []api.Row, extents []extent) (int, bool) {
	bytes := 0
	for i, row := range rows {
		bytes = sum(bytes, sum(extents[i].bytes, bodyBytes(row.Body)))
		if bytes > mostBytes {
			return 0, false
		}
		if extents[i].sure && !goesOn(row.Body) {
			return i, true
		}
		bytes = sum(bytes, goOnBytes)
	}
	return len(rows), true
}

// goesOn says whether Next is free in a Body.
func goesOn(body api.Expr) bool {
	return slices.Contains(core.Free(body), api.Next)
}
