package kinds

// The shapes of kinds.
const (
	open  = iota // not determined
	star         // *
	arrow        // from a kind to a kind
)

// kind is a kind, or what is known of one. A settled one has nothing open in
// it, and stays as it is.
type kind struct {
	shape    int
	from, to *kind
	same     *kind // set once it has turned out to be that kind
	progress int   // how far its stars are counted
	stars    int
}

// find is the kind that stands for all that are known to be the same as k.
// It shortens the way for the next time.
func (k *kind) find() *kind {
	for k.same != nil {
		if k.same.same != nil {
			k.same = k.same.same
		}
		k = k.same
	}
	return k
}

// unify makes two kinds the same. Arrows are made the same ahead of their
// parts, so that this ends even if a kind becomes a part of itself, which
// measure finds out. What is left to do is kept on a stack: kinds may be too
// deep for calls within calls.
func unify(a, b *kind) error {
	left := [][2]*kind{{a, b}}
	for len(left) > 0 {
		last := left[len(left)-1]
		left = left[:len(left)-1]
		x, y := last[0].find(), last[1].find()
		switch {
		case x == y:
		case x.shape == open:
			x.same = y
		case y.shape == open:
			y.same = x
		case x.shape != y.shape:
			return errClash
		case x.shape == arrow:
			x.same = y
			left = append(left, [2]*kind{x.from, y.from}, [2]*kind{x.to, y.to})
		}
	}
	return nil
}

// mostStars is how many stars the kind of a type or class may have. Kinds
// within this bound are neither deep nor great: calls within calls will do.
const mostStars = 64

// How far the stars of a kind are counted.
const (
	notBegun = iota
	begun
	counted
)

// measure counts the stars of a kind and of all its parts, as if what is open
// were *, and no further than is needed to know that they are too many. It
// finds out whether a kind is a part of itself.
func (k *kind) measure() error {
	path := []*kind{k.find()}
	for len(path) > 0 {
		last := path[len(path)-1]
		switch {
		case last.progress == counted:
			path = path[:len(path)-1]
		case last.shape != arrow:
			last.progress, last.stars = counted, 1
		case last.progress == begun:
			sum := last.from.find().stars + last.to.find().stars
			last.progress, last.stars = counted, min(sum, mostStars+1)
		default:
			last.progress = begun
			for _, part := range []*kind{last.to.find(), last.from.find()} {
				if part.progress == begun {
					return errEndless
				}
				path = append(path, part)
			}
		}
	}
	return nil
}

// settled is a kind that has been measured and is not too great, with * for
// what is open. It shares nothing with k.
func (k *kind) settled() *kind {
	k = k.find()
	if k.shape != arrow {
		return &kind{shape: star}
	}
	return &kind{shape: arrow, from: k.from.settled(), to: k.to.settled()}
}

// text is a settled kind as it is written.
func (k *kind) text() string {
	if k.shape == star {
		return "*"
	}
	from := k.from.text()
	if k.from.shape == arrow {
		from = "(" + from + ")"
	}
	return from + " -> " + k.to.text()
}

// alike says whether two settled kinds are the same.
func alike(a, b *kind) bool {
	if a.shape != b.shape {
		return false
	}
	return a.shape == star || alike(a.from, b.from) && alike(a.to, b.to)
}
