package kinds

import (
	"errors"
	"strconv"

	"teasel/api"
)

// What can be wrong with a declaration.
var (
	errClash   = errors.New("a kind would have to be both * and an arrow")
	errEndless = errors.New("a kind would have to be a part of itself")
	errUnused  = errors.New("a method does not use the variable of its class")
	errBig     = errors.New("a kind has too many stars")
	errMany    = errors.New("a type has more arguments than its kind takes")
	errOther   = errors.New("a type has another kind than its class")
)

// fault is what is wrong with a declaration.
type fault struct {
	line, col int
	cause     error
}

func faultAt(d api.Node, cause error) fault {
	return fault{line: d.Line, col: d.Col, cause: cause}
}

func (f fault) Error() string {
	return "line " + strconv.Itoa(f.line) + ", column " + strconv.Itoa(f.col) + ": " + f.cause.Error()
}

func (f fault) Unwrap() error {
	return f.cause
}

func (f fault) diag(file string) api.Diag {
	return api.Diag{File: file, Line: f.line, Col: f.col, Number: api.ErrKind}
}
