package core

import (
	"container/heap"
	"slices"
	"sort"

	"teasel/api"
)

// usesOf is, for each of some binds, those that it uses. It is false if one of
// them has too many levels.
func usesOf(binds []api.Bind) ([][]int, bool) {
	at := map[string]int{}
	for i := range slices.Backward(binds) { // so that the first one of a name stays
		at[binds[i].Name] = i
	}
	m := newMeasurer(mostSteps)
	uses := make([][]int, len(binds))
	for i := range binds {
		names, ok := m.free(&binds[i].Expr)
		if !ok {
			return nil, false
		}
		for _, name := range names {
			if used, found := at[name]; found {
				uses[i] = append(uses[i], used)
			}
		}
	}
	return uses, true
}

// graph is binds, which use others and have others as users.
type graph struct {
	uses, users [][]int
	first       []int // the first bind of the same group, or none
}

const none = -1

func newGraph(uses [][]int) *graph {
	g := &graph{uses: uses, users: make([][]int, len(uses)), first: make([]int, len(uses))}
	for user, used := range uses {
		g.first[user] = none
		for _, i := range used {
			g.users[i] = append(g.users[i], user)
		}
	}
	return g
}

// groups is the groups in order.
func (g *graph) groups() [][]int {
	// Among the binds without a group, the one that is left last is used by no
	// others but those of its own group.
	for _, i := range slices.Backward(g.left()) {
		if g.first[i] == none {
			g.close(i)
		}
	}
	members := make([][]int, len(g.first))
	for i, first := range g.first {
		members[first] = append(members[first], i)
	}
	var groups [][]int
	for _, first := range g.order() {
		groups = append(groups, members[first])
	}
	return groups
}

// visit is a bind on a chain of uses, and how many of its own are followed.
type visit struct {
	at, followed int
}

// left is the binds in the order in which they are left, once all that they use
// is followed. A chain of uses may be too long for calls within calls.
func (g *graph) left() []int {
	var left []int
	var path []visit
	met := make([]bool, len(g.uses))
	meet := func(i int) {
		if !met[i] {
			met[i] = true
			path = append(path, visit{at: i})
		}
	}
	for root := range g.uses {
		for meet(root); len(path) > 0; {
			last := &path[len(path)-1]
			if last.followed == len(g.uses[last.at]) {
				left = append(left, last.at)
				path = path[:len(path)-1]
				continue
			}
			last.followed++
			meet(g.uses[last.at][last.followed-1])
		}
	}
	return left
}

// close makes a group of a bind and of all that reach it and have none.
func (g *graph) close(last int) {
	group := []int{last}
	g.first[last] = last
	for i := 0; i < len(group); i++ {
		for _, user := range g.users[group[i]] {
			if g.first[user] == none {
				g.first[user] = last
				group = append(group, user)
			}
		}
	}
	first := slices.Min(group)
	for _, i := range group {
		g.first[i] = first
	}
}

// order is the groups, by their first binds, each behind those that it uses.
func (g *graph) order() []int {
	waits := make([]int, len(g.uses)) // how many uses of groups that are not listed
	users := make([][]int, len(g.uses))
	for i, used := range g.uses {
		for _, u := range used {
			if user, other := g.first[i], g.first[u]; user != other {
				waits[user]++
				users[other] = append(users[other], user)
			}
		}
	}
	ready := &queue{}
	for i, first := range g.first {
		if i == first && waits[i] == 0 {
			heap.Push(ready, i)
		}
	}
	var order []int
	for ready.Len() > 0 {
		next := heap.Pop(ready).(int)
		order = append(order, next)
		for _, user := range users[next] {
			waits[user]--
			if waits[user] == 0 {
				heap.Push(ready, user)
			}
		}
	}
	return order
}

// queue is groups, of which the one with the smallest index is taken first.
type queue struct {
	sort.IntSlice
}

func (q *queue) Push(group any) { q.IntSlice = append(q.IntSlice, group.(int)) }

func (q *queue) Pop() any {
	last := len(q.IntSlice) - 1
	group := q.IntSlice[last]
	q.IntSlice = q.IntSlice[:last]
	return group
}
