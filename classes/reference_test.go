package classes_test

import (
	"slices"

	"teasel/api"
	"teasel/unify"
)

// What follows is a second way to reduce preds, word by word as the chapter
// tells it: a list in which one pred after the other is replaced.

// headOf is the TVar or TCon at which a type starts, and the arguments.
func headOf(t api.Type) (api.Type, []api.Type) {
	if t.Kind != api.TApp {
		return t, nil
	}
	head, arguments := headOf(t.Subs[0])
	return head, append(slices.Clip(arguments), t.Subs[1])
}

// fitting is the first of insts that fits a pred whose head is a TCon.
func fitting(insts []api.Inst, p api.Pred) (api.Inst, bool) {
	head, arguments := headOf(p.Type)
	for _, i := range insts {
		if i.Class == p.Class && i.Con == head.Name && i.Args == len(arguments) {
			return i, true
		}
	}
	return api.Inst{}, false
}

// required is what a pred whose head is a TCon requires, if it is satisfiable.
func required(insts []api.Inst, p api.Pred) ([]api.Pred, bool) {
	i, found := fitting(insts, p)
	if !found {
		return nil, false
	}
	_, arguments := headOf(p.Type)
	var all []api.Pred
	for _, need := range i.Needs {
		all = append(all, api.Pred{Class: need.Class, Type: arguments[need.Arg]})
	}
	return all, true
}

func isReduced(p api.Pred) bool {
	head, _ := headOf(p.Type)
	return head.Kind == api.TVar
}

func samePred(a, b api.Pred) bool {
	return a.Class == b.Class && alike(a.Type, b.Type)
}

// ahead says whether a comes before b, wherever they were reached.
func ahead(a, b api.Pred) bool {
	if a.Class != b.Class {
		return a.Class < b.Class
	}
	return unify.Text(a.Type) < unify.Text(b.Type)
}

// replaced is a list of preds in which all have a TVar as their head.
func replaced(insts []api.Inst, preds []api.Pred) ([]api.Pred, bool) {
	list := slices.Clone(preds)
	for i := 0; i < len(list); {
		if isReduced(list[i]) {
			i++
			continue
		}
		all, satisfiable := required(insts, list[i])
		if !satisfiable {
			return nil, false
		}
		list = slices.Replace(list, i, i+1, all...)
	}
	return list, true
}

// reference is what Reduce must answer for preds that are valid, and not too
// big, as a text.
func reference(insts []api.Inst, preds []api.Pred) string {
	list, satisfiable := replaced(insts, preds)
	if !satisfiable {
		return "ErrInstance"
	}
	var all []api.Pred
	for _, p := range list {
		if slices.ContainsFunc(all, func(q api.Pred) bool { return samePred(p, q) }) {
			continue
		}
		at := len(all)
		for at > 0 && ahead(p, all[at-1]) {
			at--
		}
		all = slices.Insert(all, at, p)
	}
	return sayExactly(all)
}

// sayExactly is preds as a text in which those that are not the same differ.
func sayExactly(preds []api.Pred) string {
	text := ""
	for _, p := range preds {
		text += p.Class + " " + sayType(p.Type) + "; "
	}
	return text
}

func sayType(t api.Type) string {
	switch t.Kind {
	case api.TVar:
		return "?" + t.Name
	case api.TCon:
		return t.Name
	}
	return "(" + sayType(t.Subs[0]) + " " + sayType(t.Subs[1]) + ")"
}

// belongs says whether a type without TVars belongs to a class.
func belongs(insts []api.Inst, class string, t api.Type) bool {
	all, satisfiable := required(insts, api.Pred{Class: class, Type: t})
	for _, p := range all {
		if !belongs(insts, p.Class, p.Type) {
			return false
		}
	}
	return satisfiable
}
