package names_test

import (
	"cmp"
	"slices"
	"strconv"
	"strings"

	"teasel/api"
	"teasel/parse"
)

// This is a second resolver, word by word as the chapter says: it looks for
// the meaning of a name from where the name stands, up the tree, and keeps
// all in lists.

// A spot is a node and where it stands in its tree.
type spot struct {
	api.Node
	up    *spot
	place int // among the children of up
	subs  []*spot
	bound *[]*spot // see boundBy
}

func spotOf(n api.Node, up *spot, place int) *spot {
	s := &spot{Node: n, up: up, place: place}
	for i, sub := range n.Subs {
		s.subs = append(s.subs, spotOf(sub, s, i))
	}
	return s
}

// all is a spot and those below it, in the order of the tree.
func (s *spot) all() []*spot {
	var out []*spot
	var walk func(*spot)
	walk = func(s *spot) {
		out = append(out, s)
		for _, sub := range s.subs {
			walk(sub)
		}
	}
	walk(s)
	return out
}

func (s *spot) is(kinds ...int) bool {
	return slices.Contains(kinds, s.Kind)
}

// inside says whether a spot stands below another one, or is it.
func (s *spot) inside(other *spot) bool {
	for ; s != nil; s = s.up {
		if s == other {
			return true
		}
	}
	return false
}

// binder is the node whose pattern a variable stands in.
func (s *spot) binder() *spot {
	for s.is(api.PVar, api.PAs, api.PCon, api.POps, api.PTup, api.PList, api.PMake, api.EField) {
		s = s.up
	}
	if s.is(api.List) {
		s = s.up
	}
	return s
}

// isTop says whether a declaration stands in the list of the module itself.
func (s *spot) isTop() bool {
	return s.up != nil && s.up.up != nil && s.up.up.is(api.DMod)
}

// A thing is an entity of a module.
type thing struct {
	sort, module, name string
	kind               int
	at                 *spot // nothing for those of Prim
}

func (th thing) full() string { return th.module + "." + th.name }

// A judge knows all modules.
type judge struct {
	mods      []*spot
	own       map[string][]thing // by modules
	broughtTo map[*spot][]thing
	numbers   map[*spot]int
}

func newJudge(mods []api.Node) *judge {
	j := &judge{own: map[string][]thing{"Prim": primThings()}, broughtTo: map[*spot][]thing{}, numbers: map[*spot]int{}}
	for _, n := range mods {
		m := spotOf(n, nil, 0)
		j.mods = append(j.mods, m)
		j.own[n.Name] = ownThings(m)
		count := 0
		for _, s := range m.all() {
			if isLocalBinding(s) {
				count++
				j.numbers[s] = count
			}
		}
	}
	return j
}

func primThings() []thing {
	var all []thing
	add := func(sort string, kind int, names string) {
		for _, name := range strings.Fields(names) {
			all = append(all, thing{sort: sort, module: "Prim", name: name, kind: kind})
		}
	}
	add("value", api.DFun, "primAdd primSub primMul primQuot primRem primEq primLt primLe primGet primPut primReturn primBind primSeq primRaise")
	add("con", api.DCon, "False True () (,) (,,) :")
	add("type", api.DData, "Int Bool IO [] () (,) (,,) ->")
	return all
}

func ownThings(m *spot) []thing {
	var all []thing
	for _, s := range m.all() {
		sort := ""
		switch {
		case s.is(api.DData, api.DClass):
			sort = "type"
		case s.is(api.DCon):
			sort = "con"
		case s.is(api.DField, api.DMethod),
			s.is(api.DFun) && s.isTop(),
			s.is(api.PVar, api.PAs) && s.binder().is(api.DPat) && s.binder().isTop():
			sort = "value"
		}
		if sort != "" {
			all = append(all, thing{sort: sort, module: m.Name, name: s.Name, kind: s.Kind, at: s})
		}
	}
	return all
}

// partsOf is the components of a type or class.
func (j *judge) partsOf(whole thing) []thing {
	if whole.full() == "Prim.Bool" {
		return j.find(j.own["Prim"], func(th thing) bool { return th.name == "False" || th.name == "True" })
	}
	return j.find(j.own[whole.module], func(th thing) bool {
		return whole.at != nil && th.at != whole.at && th.at.inside(whole.at)
	})
}

func (j *judge) find(among []thing, isOne func(thing) bool) []thing {
	var out []thing
	for _, th := range among {
		if isOne(th) {
			out = append(out, th)
		}
	}
	return out
}

// named is what an item names among some things.
func (j *judge) named(item string, among []thing) []thing {
	sort := "value"
	if strings.ContainsAny(item[:1], "ABCDEFGHIJKLMNOPQRSTUVWXYZ") {
		sort = "type"
	}
	var out []thing
	for _, th := range j.find(among, func(th thing) bool { return th.sort == sort && th.name == item }) {
		out = append(out, th)
		if sort == "type" {
			out = append(out, j.partsOf(th)...)
		}
	}
	return out
}

func (j *judge) module(name string) *spot {
	for _, m := range j.mods {
		if m.Name == name {
			return m
		}
	}
	return nil
}

func (j *judge) exports(name string) []thing {
	m := j.module(name)
	if m == nil || m.subs[0].is(api.None) {
		return j.own[name]
	}
	var out []thing
	for _, item := range m.subs[0].subs {
		out = append(out, j.named(item.Name, j.own[name])...)
	}
	return out
}

// importedNames is the modules that one imports, but Prim's types.
func (j *judge) importedNames(m *spot) []string {
	var out []string
	for _, d := range m.subs[1].subs {
		out = append(out, d.Name)
	}
	if j.module("Prelude") != nil && m.Name != "Prelude" && !slices.Contains(out, "Prelude") {
		out = append(out, "Prelude")
	}
	return out
}

// brought is all that the imports of a module bring into scope.
func (j *judge) brought(m *spot) []thing {
	if known, found := j.broughtTo[m]; found {
		return known
	}
	out := j.find(j.own["Prim"], func(th thing) bool { return th.sort != "value" })
	for _, d := range m.subs[1].subs {
		if d.subs[0].is(api.None) {
			out = append(out, j.exports(d.Name)...)
		}
		for _, item := range d.subs[0].subs {
			out = append(out, j.named(item.Name, j.exports(d.Name))...)
		}
	}
	if slices.Contains(j.importedNames(m), "Prelude") && !slices.ContainsFunc(m.subs[1].subs, func(d *spot) bool { return d.Name == "Prelude" }) {
		out = append(out, j.exports("Prelude")...)
	}
	j.broughtTo[m] = out
	return out
}

// answer is what Resolve must answer.
func answer(mods []api.Node) ([]api.Node, api.Diag) {
	for _, n := range mods {
		if !parse.Right(n) {
			return nil, api.Diag{Number: api.ErrTree}
		}
	}
	for i, n := range mods {
		if n.Name == "Prim" || slices.ContainsFunc(mods[:i], func(m api.Node) bool { return m.Name == n.Name }) {
			return nil, wrongAt(n.Name, n, api.ErrModule)
		}
	}
	j := newJudge(mods)
	order, d := j.order()
	if d.Number != api.OK {
		return nil, d
	}
	var out []api.Node
	for _, m := range order {
		if d := j.wrongIn(m); d.Number != api.OK {
			return nil, d
		}
		n := m.Node
		n.Subs = []api.Node{{}, {Kind: api.List}, j.renamed(m, m.subs[2])}
		out = append(out, n)
	}
	return out, api.Diag{}
}

func wrongAt(file string, n api.Node, number api.Errno) api.Diag {
	return api.Diag{File: file, Line: n.Line, Col: n.Col, Number: number}
}

func (j *judge) order() ([]*spot, api.Diag) {
	for _, m := range j.mods {
		for _, d := range m.subs[1].subs {
			if d.Name != "Prim" && j.module(d.Name) == nil {
				return nil, wrongAt(m.Name, d.Node, api.ErrImport)
			}
		}
	}
	left := slices.Clone(j.mods)
	slices.SortFunc(left, func(a, b *spot) int { return strings.Compare(a.Name, b.Name) })
	var out []*spot
	isLeft := func(name string) bool {
		return slices.ContainsFunc(left, func(m *spot) bool { return m.Name == name })
	}
	for len(left) > 0 {
		next := slices.IndexFunc(left, func(m *spot) bool { return !slices.ContainsFunc(j.importedNames(m), isLeft) })
		if next < 0 {
			for _, d := range left[0].subs[1].subs {
				if isLeft(d.Name) {
					return nil, wrongAt(left[0].Name, d.Node, api.ErrCycle)
				}
			}
			return nil, wrongAt(left[0].Name, left[0].Node, api.ErrCycle)
		}
		out = append(out, left[next])
		left = slices.Delete(left, next, next+1)
	}
	return out, api.Diag{}
}

// wrongIn is the first error of a module.
func (j *judge) wrongIn(m *spot) api.Diag {
	own := j.own[m.Name]
	for i, th := range own {
		if th.name == ":" || slices.ContainsFunc(own[:i], func(o thing) bool { return o.sort == th.sort && o.name == th.name }) {
			return wrongAt(m.Name, th.at.Node, api.ErrTwice)
		}
	}
	for _, item := range m.subs[0].subs {
		if len(j.named(item.Name, own)) == 0 {
			return wrongAt(m.Name, item.Node, api.ErrExport)
		}
	}
	for _, d := range m.subs[1].subs {
		for _, item := range d.subs[0].subs {
			if len(j.named(item.Name, j.exports(d.Name))) == 0 {
				return wrongAt(m.Name, item.Node, api.ErrImport)
			}
		}
	}
	var all []api.Diag
	for _, s := range m.subs[2].all() {
		for _, number := range j.wrongOf(m, s) {
			all = append(all, wrongAt(m.Name, s.Node, number))
		}
	}
	if len(all) == 0 {
		return api.Diag{}
	}
	ranks := map[api.Errno]int{api.ErrUnknown: 1, api.ErrMany: 2, api.ErrTwice: 3}
	return slices.MinFunc(all, func(a, b api.Diag) int {
		return cmp.Or(cmp.Compare(a.Line, b.Line), cmp.Compare(a.Col, b.Col), ranks[a.Number]-ranks[b.Number])
	})
}

// sortOf is that of the entity that a spot names; nothing if it names none.
func sortOf(s *spot) string {
	switch {
	case s.is(api.EVar), s.is(api.EOp) && s.N == 0, s.is(api.EField) && s.up.is(api.EPut):
		return "value"
	case s.is(api.ECon, api.PCon, api.EMake, api.PMake, api.EOp):
		return "con"
	case s.is(api.TCon, api.DPred, api.DInst):
		return "type"
	}
	return ""
}

// meant is the entities that a name refers to, local bindings ignored.
func (j *judge) meant(m, s *spot) []thing {
	isIt := func(th thing) bool { return th.sort == sortOf(s) && th.name == s.Name }
	if own := j.find(j.own[m.Name], isIt); len(own) > 0 {
		return own
	}
	var out []thing
	for _, th := range j.find(j.brought(m), isIt) {
		if !slices.ContainsFunc(out, func(o thing) bool { return o.full() == th.full() }) {
			out = append(out, th)
		}
	}
	return out
}

// boundBy is what patterns or a List of declarations bind.
func boundBy(part *spot) []*spot {
	if part.bound != nil {
		return *part.bound
	}
	var out []*spot
	for _, s := range part.all() {
		switch {
		case s.is(api.DFun):
			if s.up == part {
				out = append(out, s)
			}
		case s.is(api.PVar, api.PAs):
			b := s.binder()
			if !part.is(api.List) || !b.inside(part) || b.is(api.DPat) && b.up == part {
				out = append(out, s)
			}
		}
	}
	part.bound = &out
	return out
}

// localOf is the local binding that a name refers to, or nothing.
func localOf(s *spot) *spot {
	for c := s; c.up != nil; c = c.up {
		var parts []*spot // the innermost one last
		switch p := c.up; p.Kind {
		case api.DClause, api.ELam, api.EAlt:
			if c.place == 1 {
				parts = append(parts, p.subs[0])
			}
		case api.ELet, api.SLet:
			parts = append(parts, p.subs[0])
		case api.DRhs:
			parts = append(parts, p.subs[1])
		case api.EDo:
			for _, before := range p.subs[:c.place] {
				if before.is(api.SGen, api.SLet) {
					parts = append(parts, before.subs[0])
				}
			}
		}
		for _, part := range slices.Backward(parts) {
			for _, b := range boundBy(part) {
				if b.Name == s.Name {
					return b
				}
			}
		}
	}
	return nil
}

func isLocalBinding(s *spot) bool {
	if s.is(api.DFun) {
		return !s.isTop() && !s.up.up.is(api.DInst)
	}
	return s.is(api.PVar, api.PAs) && !(s.binder().is(api.DPat) && s.binder().isTop())
}

// wrongOf is what is wrong at a spot.
func (j *judge) wrongOf(m, s *spot) []api.Errno {
	var out []api.Errno
	if sortOf(s) != "" && !(s.is(api.EVar, api.EOp) && localOf(s) != nil) {
		switch meant := j.meant(m, s); {
		case len(meant) == 0,
			len(meant) == 1 && s.is(api.TCon) && meant[0].kind == api.DClass,
			len(meant) == 1 && s.is(api.DPred, api.DInst) && meant[0].kind != api.DClass,
			len(meant) == 1 && s.is(api.EField) && meant[0].kind != api.DField:
			out = append(out, api.ErrUnknown)
		case len(meant) > 1:
			out = append(out, api.ErrMany)
		}
	}
	if j.isLost(m, s) {
		out = append(out, api.ErrUnknown)
	}
	if isRepeated(s) {
		out = append(out, api.ErrTwice)
	}
	return out
}

func namesOf(spots []*spot, kinds ...int) []string {
	var out []string
	for _, s := range spots {
		if s.is(kinds...) {
			out = append(out, s.Name)
		}
	}
	return out
}

// isLost says whether a name must be one of others, and is not.
func (j *judge) isLost(m, s *spot) bool {
	switch s.Kind {
	case api.TVar:
		for d := s.up; d != nil; d = d.up {
			switch {
			case d.is(api.DData):
				return !slices.Contains(namesOf(d.subs[0].subs, api.TVar), s.Name)
			case d.is(api.DPred):
				return !slices.Contains(namesOf(d.up.up.subs[1].all(), api.TVar), s.Name)
			}
		}
	case api.EField:
		if s.up.is(api.EMake, api.PMake) && len(j.meant(m, s.up)) == 1 {
			return j.partOf(m, s.up, s.Name, api.DField) == nil
		}
	case api.DFun:
		if class := s.up.up; class.is(api.DInst) {
			meant := j.meant(m, class)
			return len(meant) == 1 && meant[0].kind == api.DClass && j.partOf(m, class, s.Name, api.DMethod) == nil
		}
	case api.EOp:
		if s.up.up.is(api.DFix) {
			return len(j.find(j.own[m.Name], func(th thing) bool { return th.sort == sortOf(s) && th.name == s.Name })) == 0
		}
	case api.EDo:
		return len(j.find(j.own["Prelude"], func(th thing) bool { return th.sort == "value" && th.name == ">>=" })) == 0
	}
	return false
}

// partOf is a field of the constructor, or a method of the class, that a spot
// names.
func (j *judge) partOf(m, s *spot, name string, kind int) *thing {
	whole := j.meant(m, s)[0]
	if whole.at == nil {
		return nil
	}
	for _, th := range j.own[whole.module] {
		if th.kind == kind && th.name == name && th.at.inside(whole.at) {
			return &th
		}
	}
	return nil
}

// isRepeated says whether a name stands ahead of a spot in what may have it
// only once.
func isRepeated(s *spot) bool {
	ahead := func(among []*spot) bool {
		i := slices.Index(among, s)
		return i >= 0 && slices.ContainsFunc(among[:i], func(o *spot) bool { return o.Name == s.Name })
	}
	of := func(among []*spot, kind int) []*spot {
		return slices.DeleteFunc(slices.Clone(among), func(o *spot) bool { return o.Kind != kind })
	}
	switch s.Kind {
	case api.TVar:
		for d := s.up; d != nil; d = d.up {
			if d.is(api.DData) {
				return ahead(d.subs[0].subs)
			}
			if d.is(api.DInst) {
				return ahead(of(d.subs[1].all(), api.TVar))
			}
		}
	case api.EField:
		return ahead(of(s.up.subs, api.EField))
	case api.DFun:
		return ahead(boundBy(s.up))
	case api.PVar, api.PAs:
		b := s.binder()
		if b.is(api.DPat) {
			return ahead(boundBy(b.up))
		}
		return ahead(boundBy(b.subs[0]))
	}
	return false
}

// renamed is the tree of a spot, all names replaced.
func (j *judge) renamed(m, s *spot) api.Node {
	n := s.Node
	n.Name = j.newName(m, s)
	n.Subs = nil
	for _, sub := range s.subs {
		n.Subs = append(n.Subs, j.renamed(m, sub))
	}
	return n
}

func (j *judge) newName(m, s *spot) string {
	switch {
	case isLocalBinding(s):
		return s.Name + "." + strconv.Itoa(j.numbers[s])
	case s.is(api.EVar, api.EOp) && localOf(s) != nil:
		return j.newName(m, localOf(s))
	case sortOf(s) != "":
		return j.meant(m, s)[0].full()
	case s.is(api.EField):
		return j.partOf(m, s.up, s.Name, api.DField).full()
	case s.is(api.DFun) && s.up.up.is(api.DInst):
		return j.partOf(m, s.up.up, s.Name, api.DMethod).full()
	case s.is(api.DData, api.DCon, api.DField, api.DClass, api.DMethod, api.DFun, api.PVar, api.PAs):
		return m.Name + "." + s.Name
	}
	return s.Name
}
