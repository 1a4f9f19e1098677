package names

import (
	"container/heap"

	"teasel/api"
)

// order is the modules in dependency order.
func (p *program) order() ([]*module, api.Diag) {
	if diag := p.checkImports(); diag.Number != api.OK {
		return nil, diag
	}
	p.countWaits()
	ordered := p.place()
	if len(ordered) < len(p.given) {
		return nil, p.cycle()
	}
	return ordered, api.Diag{}
}

// checkImports finds the first DImport of a module that does not exist.
func (p *program) checkImports() api.Diag {
	for _, m := range p.given {
		for _, d := range m.imports() {
			if p.byName[d.Name] == nil {
				return m.fault(api.ErrImport, d)
			}
		}
	}
	return api.Diag{}
}

// countWaits finds for each module which others import it, and how many
// imports it waits for itself.
func (p *program) countWaits() {
	for _, m := range p.given {
		for _, d := range m.imports() {
			m.waitFor(p.byName[d.Name])
		}
		if p.importsPrelude(m) {
			m.waitFor(p.byName[preludeName])
		}
	}
}

// waitFor may count a module that is imported twice as two: it will come for
// both.
func (m *module) waitFor(other *module) {
	if !other.placed {
		m.waits++
		other.users = append(other.users, m)
	}
}

// place puts modules in order, as long as there is one whose imports all have
// their places.
func (p *program) place() []*module {
	ready := &queue{}
	for _, m := range p.given {
		if m.waits == 0 {
			heap.Push(ready, m)
		}
	}
	var ordered []*module
	for ready.Len() > 0 {
		next := heap.Pop(ready).(*module)
		next.placed = true
		ordered = append(ordered, next)
		for _, user := range next.users {
			user.waits--
			if user.waits == 0 {
				heap.Push(ready, user)
			}
		}
	}
	return ordered
}

// queue is modules of which the one with the smallest name is taken first.
type queue []*module

func (q queue) Len() int           { return len(q) }
func (q queue) Less(i, j int) bool { return q[i].name < q[j].name }
func (q queue) Swap(i, j int)      { q[i], q[j] = q[j], q[i] }
func (q *queue) Push(m any)        { *q = append(*q, m.(*module)) }

func (q *queue) Pop() any {
	last := len(*q) - 1
	m := (*q)[last]
	*q = (*q)[:last]
	return m
}

// cycle is the error of modules of which some have no place.
func (p *program) cycle() api.Diag {
	var first *module
	for _, m := range p.given {
		if !m.placed && (first == nil || m.name < first.name) {
			first = m
		}
	}
	for _, d := range first.imports() {
		if !p.byName[d.Name].placed {
			return first.fault(api.ErrCycle, d)
		}
	}
	return first.fault(api.ErrCycle, first.tree)
}
