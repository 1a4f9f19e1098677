package match

import "teasel/api"

// checker says what patterns are. It looks at what is within one only once, in
// however many places that stands.
type checker struct {
	table
	known map[*api.Node]extent
}

func newChecker(t table) checker {
	return checker{table: t, known: map[*api.Node]extent{}}
}

// all is for nodes on a level, and false if one of them is no pattern.
func (c checker) all(nodes []api.Node, level int) (extent, bool) {
	whole := extent{sure: true}
	for i := range nodes {
		x, ok := c.pattern(&nodes[i], level)
		if !ok {
			return extent{}, false
		}
		whole = whole.and(x)
	}
	return whole, true
}

func (c checker) pattern(p *api.Node, level int) (extent, bool) {
	x, found := c.known[p]
	if found || level > mostLevels {
		return x, found
	}
	x, ok := c.look(p, level)
	if ok && len(p.Subs) > 0 {
		c.known[p] = x
	}
	return x, ok
}

func (c checker) look(p *api.Node, level int) (extent, bool) {
	if p.Kind == api.PMake {
		return c.record(p, level)
	}
	inside, ok := c.all(p.Subs, level+1)
	if !ok {
		return extent{}, false
	}
	count := len(p.Subs)
	switch p.Kind {
	case api.PWild:
		return inside, count == 0
	case api.PVar:
		return inside.and(extent{sure: true, bytes: letBytes}), count == 0 && p.Name != ""
	case api.PAs:
		return inside.and(extent{sure: true, bytes: letBytes}), count == 1 && p.Name != ""
	case api.PInt:
		return extent{bytes: numberBytes}, count == 0
	case api.PStr:
		x, ok := c.list(len(p.Name), extent{bytes: sum(0, numberBytes*len(p.Name))})
		return x, ok && count == 0
	case api.PList:
		return c.list(count, inside)
	case api.PTup:
		return c.around(p, inside), (count == 2 || count == 3) && c.has(constructorOf(p), count)
	case api.PCon:
		return c.around(p, inside), c.has(p.Name, count)
	}
	return extent{}, false
}

// record is for a PMake.
func (c checker) record(p *api.Node, level int) (extent, bool) {
	con, found := c.cons[p.Name]
	inside, taken := extent{sure: true}, map[int]struct{}{}
	for i := range p.Subs {
		field := &p.Subs[i]
		place, labelled := c.places[[2]string{p.Name, field.Name}]
		_, twice := taken[place]
		if field.Kind != api.EField || len(field.Subs) != 1 || !labelled || twice || place < 0 || place >= con.Arity {
			return extent{}, false
		}
		taken[place] = struct{}{}
		x, ok := c.pattern(&field.Subs[0], level+1)
		if !ok {
			return extent{}, false
		}
		inside = inside.and(x)
	}
	return c.around(p, inside), found
}

// around is for a pattern of one constructor, with what is inside.
func (c checker) around(p *api.Node, inside extent) extent {
	con := c.cons[constructorOf(p)]
	return inside.and(extent{sure: con.Family == 1, bytes: caseBytes(con)})
}

// list is for so many elements.
func (c checker) list(count int, elements extent) (extent, bool) {
	links := extent{bytes: sum(0, count*caseBytes(c.cons[link]))}
	x := elements.and(links).and(extent{bytes: caseBytes(c.cons[empty])})
	return x, c.has(empty, 0) && (count == 0 || c.has(link, 2))
}
