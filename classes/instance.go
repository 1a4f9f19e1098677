package classes

import (
	"slices"

	"teasel/api"
)

// title is what no two instances of a program have in common.
type title struct {
	class, con string
}

// instancesOf is the DInsts of a module.
func instancesOf(tree api.Node) []api.Node {
	var all []api.Node
	for _, d := range tree.Subs[2].Subs {
		if d.Kind == api.DInst {
			all = append(all, d)
		}
	}
	return all
}

// instanceOf is the instance of a DInst.
func instanceOf(d api.Node) api.Inst {
	con, arguments := spineOf(d.Subs[1])
	var needs []api.Need
	for _, pred := range d.Subs[0].Subs {
		at := slices.Index(arguments, pred.Subs[0].Name)
		needs = append(needs, api.Need{Class: pred.Name, Arg: at})
	}
	return api.Inst{Class: d.Name, Con: con, Args: len(arguments), Needs: distinct(needs)}
}

// spineOf is the constructor of the type of a DInst, and the names of the
// variables that it is applied to. (There are few of them, as kinds are small.)
func spineOf(n api.Node) (string, []string) {
	var arguments []string
	for n.Kind == api.TApp {
		arguments = append(arguments, n.Subs[1].Name)
		n = n.Subs[0]
	}
	slices.Reverse(arguments)
	return n.Name, arguments
}

// distinct is a list of its own of needs, each once, where it is first.
func distinct(needs []api.Need) []api.Need {
	var all []api.Need
	met := map[api.Need]struct{}{}
	for _, n := range needs {
		if _, found := met[n]; !found {
			met[n] = struct{}{}
			all = append(all, n)
		}
	}
	return all
}
