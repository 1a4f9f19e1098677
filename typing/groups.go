package typing

import (
	"container/heap"
	"sort"

	"teasel/api"
)

// groupsOf puts declarations into groups by what they use, and these in order.
func groupsOf(declarations []*api.Node, uses [][]int) [][]*api.Node {
	s := &search{uses: uses, met: make([]int, len(uses)), low: make([]int, len(uses)), first: make([]int, len(uses))}
	for i := range uses {
		s.first[i] = none
	}
	for i := range uses {
		if s.met[i] == 0 {
			s.from(i)
		}
	}
	members := make([][]*api.Node, len(uses))
	for i, first := range s.first {
		members[first] = append(members[first], declarations[i])
	}
	var groups [][]*api.Node
	for _, first := range s.order() {
		groups = append(groups, members[first])
	}
	return groups
}

// search finds which declarations are in the same group: for each, the first one
// of its group.
type search struct {
	uses  [][]int
	count int
	met   []int // the number of a declaration, in the order in which they are met; or 0
	low   []int // the smallest number of those without a group that it is known to use
	open  []int // those that have been met and have no group yet
	first []int
}

// visit is a declaration that is being searched, and how many of its uses have
// been followed.
type visit struct {
	at, followed int
}

// from searches a declaration and all that it uses. Their chain may be too long
// for calls within calls.
func (s *search) from(root int) {
	path := []visit{s.meet(root)}
	for len(path) > 0 {
		last := &path[len(path)-1]
		at := last.at
		if last.followed < len(s.uses[at]) {
			used := s.uses[at][last.followed]
			last.followed++
			if s.met[used] == 0 {
				path = append(path, s.meet(used))
			} else if s.first[used] == none {
				s.low[at] = min(s.low[at], s.met[used])
			}
			continue
		}
		path = path[:len(path)-1]
		if len(path) > 0 {
			user := path[len(path)-1].at
			s.low[user] = min(s.low[user], s.low[at])
		}
		if s.low[at] == s.met[at] {
			s.close(at)
		}
	}
}

func (s *search) meet(at int) visit {
	s.count++
	s.met[at], s.low[at] = s.count, s.count
	s.open = append(s.open, at)
	return visit{at: at}
}

// close makes a group of a declaration and of all those that were met after it
// and have none.
func (s *search) close(at int) {
	from := len(s.open) - 1
	for s.open[from] != at {
		from--
	}
	first := at
	for _, member := range s.open[from:] {
		first = min(first, member)
	}
	for _, member := range s.open[from:] {
		s.first[member] = first
	}
	s.open = s.open[:from]
}

// order is the groups, by their first declarations, in the order in which they
// are processed.
func (s *search) order() []int {
	waits := make([]int, len(s.uses)) // how many uses of other groups a group waits for
	users := make([][]int, len(s.uses))
	for i, uses := range s.uses {
		for _, used := range uses {
			if user, other := s.first[i], s.first[used]; user != other {
				waits[user]++
				users[other] = append(users[other], user)
			}
		}
	}
	ready := &queue{}
	for i, first := range s.first {
		if i == first && waits[i] == 0 {
			heap.Push(ready, i)
		}
	}
	var ordered []int
	for ready.Len() > 0 {
		next := heap.Pop(ready).(int)
		ordered = append(ordered, next)
		for _, user := range users[next] {
			waits[user]--
			if waits[user] == 0 {
				heap.Push(ready, user)
			}
		}
	}
	return ordered
}

// queue is groups of which the one that is first in the List is taken first.
type queue struct {
	sort.IntSlice
}

func (q *queue) Push(group any) { q.IntSlice = append(q.IntSlice, group.(int)) }

func (q *queue) Pop() any {
	last := len(q.IntSlice) - 1
	group := q.IntSlice[last]
	q.IntSlice = q.IntSlice[:last]
	return group
}
