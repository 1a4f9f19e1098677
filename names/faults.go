package names

import (
	"cmp"

	"teasel/api"
)

// faults collects the errors of a module: of all that are added it keeps the
// one that is reported.
type faults struct {
	module *module
	first  api.Diag
}

// add keeps the error with the smallest position.
func (f *faults) add(number api.Errno, at api.Node) {
	fault := f.module.fault(number, at)
	if f.first.Number == api.OK || precedes(fault, f.first) {
		f.first = fault
	}
}

func precedes(a, b api.Diag) bool {
	return cmp.Or(cmp.Compare(a.Line, b.Line), cmp.Compare(a.Col, b.Col), cmp.Compare(rank(a.Number), rank(b.Number))) < 0
}

// rank says which of several errors at one position comes first.
func rank(number api.Errno) int {
	switch number {
	case api.ErrUnknown:
		return 0
	case api.ErrMany:
		return 1
	}
	return 2
}
