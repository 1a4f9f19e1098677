package typing

import "teasel/api"

// What names take whose schemes have preds, beside their arguments.
const (
	nothing = iota // that is not told

	// A dictionary for each pred.
	Dictionaries

	// A type for each variable of the preds: names may have far more preds than
	// these have variables.
	Types
)

// Params is what each name of a group takes ahead of its arguments, or what the
// dictionary of a DInst takes: dictionaries, one for each of its Needs, or types,
// one for each argument of its type.
type Params struct {
	Count int
	level int
}

// Kinds of Args.
const (
	Taken       = iota + 1 // one of Params: At
	Dictionary             // of the instance for Class and Con; Parts: those for its Needs
	Constructor            // the type Con, which may take arguments
	Applied                // Parts: a type, and its argument
	Unknown                // a type that no dictionary is of, or made of
)

// Arg is a dictionary or a type that a name takes.
type Arg struct {
	Kind   int
	Params *Params // those that it is one of, or the innermost ones that it is made of; or nil
	At     int
	Class  string
	Con    string
	Parts  []*Arg
}

// add makes a part of what an Arg is made of.
func (a *Arg) add(part *Arg) {
	a.Parts = append(a.Parts, part)
	if a.Params == nil || part.Params != nil && part.Params.level > a.Params.level {
		a.Params = part.Params
	}
}

// takenBy is what a group's names take.
func takenBy(g *group, count int) []*Arg {
	params := &Params{Count: count, level: g.level}
	all := make([]*Arg, count)
	for i := range all {
		all[i] = &Arg{Kind: Taken, Params: params, At: i}
	}
	return all
}

// teller tells Args for preds whose types are final.
type teller interface {
	taken(g *group) []*Arg
	args(u *use) []*Arg
}

// newTeller is for all that is within a group at the top, or within a DFun of a
// DInst that takes something itself.
func (s *solver) newTeller(inst *Params) teller {
	if s.program.takes == Types {
		return newTypeMaker(s, inst)
	}
	return newMaker(s, inst)
}

// mostArgs is how many Args are told. If names are given far more than a program
// may have nodes, there is none of them.
const mostArgs = 10 * api.MaxNodes

// explain tells the Args that are taken in a group at the top, or in a DFun of a
// DInst, for which there is no error.
func (s *solver) explain(inst *Params) {
	tell := s.newTeller(inst)
	for _, g := range s.closed {
		g.args = tell.taken(g)
		for _, d := range g.functions {
			if len(g.args) > 0 {
				s.program.Params[d] = g.args[0].Params
			}
		}
	}
	for _, u := range s.uses {
		var args []*Arg
		if u.inside {
			args = u.known.within.args
		} else {
			args = tell.args(u)
		}
		s.program.given += len(args)
		switch {
		case s.program.given > mostArgs:
			s.program.TooMany = true
			return
		case len(args) == 0:
		case u.binds:
			s.program.Binds[u.at] = args
		default:
			s.program.Uses[u.at] = args
		}
	}
}
