package names

import "teasel/api"

// meaning is what imports bring into scope under a name.
type meaning struct {
	entity  entity
	several bool // whether they bring others too
}

// scope is what the imports of a module bring into scope.
type scope map[key]meaning

// bring adds an entity; it may be there already, by another import.
func (s scope) bring(e entity) {
	before, found := s[e.key]
	if !found {
		s[e.key] = meaning{entity: e}
	} else if before.entity.module != e.module {
		s[e.key] = meaning{entity: before.entity, several: true}
	}
}

// export finds what a module exports, or the first item of its list that names
// nothing.
func (m *module) export() api.Diag {
	items := m.tree.Subs[0]
	if items.Kind == api.None {
		m.exported = m.own
		return api.Diag{}
	}
	m.exported = map[key]entity{}
	for _, item := range items.Subs {
		named := m.named(item, m.own)
		if len(named) == 0 {
			return m.fault(api.ErrExport, item)
		}
		for _, e := range named {
			m.exported[e.key] = e
		}
	}
	return api.Diag{}
}

// named is the entity among some of a module's own that an item names, with
// all its components; none if there is no such entity.
func (m *module) named(item api.Node, among map[key]entity) []entity {
	e, found := among[itemKey(item.Name)]
	if !found {
		return nil
	}
	all := []entity{e}
	for _, part := range e.parts {
		all = append(all, m.own[part])
	}
	return all
}

// itemKey is that of a value, or of a type if the name begins as one.
func itemKey(name string) key {
	if 'A' <= name[0] && name[0] <= 'Z' {
		return key{sort: typeSort, name: name}
	}
	return key{sort: valueSort, name: name}
}

// imported is what the imports of a module bring into scope, or the first item
// of them that names nothing.
func (p *program) imported(m *module) (scope, api.Diag) {
	s := scope{}
	for _, e := range p.byName[primName].own {
		if e.sort != valueSort {
			s.bring(e)
		}
	}
	if p.importsPrelude(m) {
		s.bringAll(p.byName[preludeName])
	}
	for _, d := range m.imports() {
		from, items := p.byName[d.Name], d.Subs[0]
		if items.Kind == api.None {
			s.bringAll(from)
		}
		for _, item := range items.Subs {
			named := from.named(item, from.exported)
			if len(named) == 0 {
				return nil, m.fault(api.ErrImport, item)
			}
			for _, e := range named {
				s.bring(e)
			}
		}
	}
	return s, api.Diag{}
}

// bringAll adds everything that a module exports.
func (s scope) bringAll(from *module) {
	for _, e := range from.exported {
		s.bring(e)
	}
}
