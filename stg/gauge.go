package stg

import "teasel/api"

// The bytes that expressions of Core take: an Expr, an Alt and a Bind beside the
// Expr in them, a name.
const (
	exprBytes = 136
	altBytes  = 56
	bindBytes = 16
	nameBytes = 16
)

// gauge finds whether what becomes of expressions of STG has not too many levels,
// and is not greater than an answer may be.
type gauge struct {
	room int // how many bytes there are left
}

func (g *gauge) take(exprs, names int) bool {
	g.room -= exprBytes*exprs + nameBytes*names
	return g.room >= 0
}

func (g *gauge) binds(binds []api.SBind, level int) bool {
	for i := range binds {
		g.room -= bindBytes
		b := &binds[i]
		if !g.take(1+len(b.Args), len(b.Params)) {
			return false
		}
		isClosure := b.Kind == api.SFun || b.Kind == api.SThunk
		if isClosure && len(b.Body) > 0 && !g.expr(&b.Body[0], level) {
			return false
		}
	}
	return true
}

func (g *gauge) expr(e *api.Stg, level int) bool {
	if level > mostLevels || !g.take(1+len(e.Args), 0) {
		return false
	}
	hasParts := e.Kind == api.SCase || e.Kind == api.SRec
	if !hasParts || len(e.Subs) == 0 {
		return true
	}
	if !g.expr(&e.Subs[0], level+1) {
		return false
	}
	if e.Kind == api.SRec {
		return g.binds(e.Binds, level+1)
	}
	return g.alternatives(e.Alts, level+1)
}

func (g *gauge) alternatives(alts []api.SAlt, level int) bool {
	for i := range alts {
		g.room -= altBytes
		if !g.take(0, len(alts[i].Names)) || !g.expr(&alts[i].Body, level) {
			return false
		}
	}
	return true
}
