package layout

// The sorts of a stack's entries.
const (
	blockSort = iota + 1
	bracesSort
	markSort
)

// entry is an open block, an open pair of braces, or a mark. What an entry's
// sort does not have is zero, so that entries can be compared whole.
type entry struct {
	sort   int
	column int    // a block's
	kind   string // a mark's
}

func block(column int) entry { return entry{sort: blockSort, column: column} }

func braces() entry { return entry{sort: bracesSort} }

func mark(kind string) entry { return entry{sort: markSort, kind: kind} }

func isBlock(e entry) bool {
	return e == block(e.column)
}

// areLoose says whether entries may lie above one that is popped by a line:
// lines end blocks and the let of a statement, and nothing else.
func areLoose(above ...entry) bool {
	for _, e := range above {
		if !isBlock(e) && e != mark("let") {
			return false
		}
	}
	return true
}

// matches says whether a closer of this text ends e.
func matches(closer string, e entry) bool {
	switch closer {
	case ")":
		return e == mark("(")
	case "]":
		return e == mark("[")
	case "}":
		return e == mark("{") || e == braces()
	case ",":
		return e == mark("(") || e == mark("[") || e == mark("{")
	case "then":
		return e == mark("if")
	case "else":
		return e == mark("then")
	case "of":
		return e == mark("case")
	case "in":
		return e == mark("let")
	}
	return false
}

// stack is what is open, the most recent entry last. Beside each entry it
// keeps what can be reached from there, lest every token look through all
// entries.
type stack struct {
	entries []entry
	reaches []reach
}

// reach is the places of the entries that are asked for; -1 is none.
type reach struct {
	block int // the current block
	firm  int // the topmost entry that is not loose
	other int // the topmost entry that is not a block
}

// reach is what can be reached from the top.
func (s *stack) reach() reach {
	if len(s.reaches) == 0 {
		return reach{block: -1, firm: -1, other: -1}
	}
	return s.reaches[len(s.reaches)-1]
}

func (s *stack) push(e entry) {
	r, at := s.reach(), len(s.entries)
	if isBlock(e) {
		r.block = at
	} else {
		r.other = at
	}
	if e == braces() {
		r.block = -1
	}
	if !areLoose(e) {
		r.firm = at
	}
	s.entries = append(s.entries, e)
	s.reaches = append(s.reaches, r)
}

// cut pops all entries from the place at on.
func (s *stack) cut(at int) {
	s.entries = s.entries[:at]
	s.reaches = s.reaches[:at]
}

// column is that of the current block, 0 if there is none.
func (s *stack) column() int {
	at := s.reach().block
	if at < 0 {
		return 0
	}
	return s.entries[at].column
}
