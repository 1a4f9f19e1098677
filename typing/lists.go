package typing

import "teasel/api"

// bindName is what an EDo uses.
const bindName = "Prelude.>>="

// none is the place of no declaration.
const none = -1

// list is a List of declarations; for a module, of its DFuns and DPats alone.
type list struct {
	declarations []*api.Node
	groups       [][]*api.Node // in the order in which they are processed
	uses         [][]int       // which ones each declaration uses, by their places
	now          int           // the place of the one that is being looked at
}

// place is where a name is bound.
type place struct {
	list *list
	at   int
}

// look is a part of a module that is to be looked at, or a declaration of a list
// from which on all that is looked at belongs to it.
type look struct {
	at   *api.Node
	next place
}

// finder finds the lists of a module, and what their declarations use of each
// other. It looks at everything once, for all lists that are around it; what is
// left is kept on a stack, as trees may be too deep for calls within calls.
type finder struct {
	lists  map[*api.Node]*list
	places map[string]place
	left   []look
}

// listsOf is the lists of a module that are not empty, and its own one.
func listsOf(tree *api.Node) map[*api.Node]*list {
	f := &finder{lists: map[*api.Node]*list{}, places: map[string]place{}}
	for _, inst := range declarationsOf(tree, api.DInst) {
		f.left = append(f.left, look{at: inst})
	}
	f.add(&tree.Subs[2], valuesOf(tree))
	f.find(func(name string) {
		bound, found := f.places[name]
		if !found || bound.list.now == none {
			return
		}
		uses := &bound.list.uses[bound.list.now]
		*uses = append(*uses, bound.at)
	})
	for _, l := range f.lists {
		l.groups = groupsOf(l.declarations, l.uses)
	}
	return f.lists
}

// add adds the list that stands at some place. Its declarations are looked at
// ahead of all that is left.
func (f *finder) add(at *api.Node, declarations []*api.Node) {
	l := &list{declarations: declarations, uses: make([][]int, len(declarations)), now: none}
	f.lists[at] = l
	f.left = append(f.left, look{next: place{list: l, at: none}})
	for i := len(declarations) - 1; i >= 0; i-- {
		d := declarations[i]
		f.left = append(f.left, look{at: d}, look{next: place{list: l, at: i}})
		for _, name := range Bound(d) {
			f.places[name] = place{list: l, at: i}
		}
	}
}

// find looks at what is left, and reports the names that are used.
func (f *finder) find(report func(name string)) {
	for len(f.left) > 0 {
		last := f.left[len(f.left)-1]
		f.left = f.left[:len(f.left)-1]
		if last.at == nil {
			last.next.list.now = last.next.at
			continue
		}
		switch last.at.Kind {
		case api.EVar:
			report(last.at.Name)
		case api.EDo:
			report(bindName)
		}
		f.addParts(last.at)
	}
}

func (f *finder) addParts(n *api.Node) {
	local := localList(n)
	for i := len(n.Subs) - 1; i >= 0; i-- {
		if part := &n.Subs[i]; part != local {
			f.left = append(f.left, look{at: part})
		}
	}
	if local == nil || len(local.Subs) == 0 {
		return
	}
	var declarations []*api.Node
	for i := range local.Subs {
		declarations = append(declarations, &local.Subs[i])
	}
	f.add(local, declarations)
}
