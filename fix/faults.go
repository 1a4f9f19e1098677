package fix

import (
	"cmp"

	"teasel/api"
)

// faults collects the errors of a module: of all that are added it keeps the
// one that is reported.
type faults struct {
	file  string
	first api.Diag
}

// add keeps the error with the smallest position.
func (f *faults) add(number api.Errno, at api.Node) {
	fault := api.Diag{File: f.file, Line: at.Line, Col: at.Col, Number: number}
	if f.first.Number == api.OK || precedes(fault, f.first) {
		f.first = fault
	}
}

// precedes holds ErrFix ahead of ErrMix by their numbers.
func precedes(a, b api.Diag) bool {
	return cmp.Or(cmp.Compare(a.Line, b.Line), cmp.Compare(a.Col, b.Col), cmp.Compare(a.Number, b.Number)) < 0
}
