package simplify_test

import (
	"slices"
	"strconv"

	"teasel/api"
	"teasel/core"
	"teasel/occur"
)

// A second way to simplify, which follows the chapter's words one by one: names are
// texts, and each rule looks at, or copies, all that it speaks of.

// reference tells of each rule that it applies.
type reference struct {
	next  int
	rules map[string]int
}

func (r *reference) fresh() string {
	r.next++
	return "t#" + strconv.Itoa(r.next-1)
}

func isAtom(e api.Expr) bool { return e.Kind == api.Var || e.Kind == api.Lit }

func isNoAtom(e api.Expr) bool { return !isAtom(e) }

func isShape(e api.Expr) bool {
	return e.Kind == api.Lit || e.Kind == api.Con && !slices.ContainsFunc(e.Subs, isNoAtom)
}

func isRaise(e api.Expr) bool { return e.Kind == api.Prim && e.Op == api.Raise }

// matching is the index of the alternative that matches a shape, a Con or a Lam.
func matching(e api.Expr, alts []api.Alt) int {
	return slices.IndexFunc(alts, func(a api.Alt) bool {
		return a.Kind == api.Default || a.Kind == api.LitAlt && e.Kind == api.Lit && e.N == a.N ||
			a.Kind == api.ConAlt && e.Kind == api.Con && e.Name == a.Name
	})
}

// shapeIn is what is known of a name; the shapes are binds, the most recent one last.
func shapeIn(known []api.Bind, name string) (api.Expr, bool) {
	for _, k := range slices.Backward(known) {
		if k.Name == name {
			return k.Expr, true
		}
	}
	return api.Expr{}, false
}

func (r *reference) all(exprs []api.Expr, known []api.Bind) []api.Expr {
	var made []api.Expr
	for _, e := range exprs {
		made = append(made, r.simple(e, known))
	}
	return made
}

func (r *reference) did(rule string) { r.rules[rule]++ }

func (r *reference) simple(e api.Expr, known []api.Bind) api.Expr {
	switch e.Kind {
	case api.Lam:
		body := r.simple(e.Subs[0], known)
		if body.Kind == api.Lam {
			r.did("Lam")
			return api.Expr{Kind: api.Lam, Names: slices.Concat(e.Names, body.Names), Subs: body.Subs}
		}
		e.Subs = []api.Expr{body}
	case api.Con:
		e.Subs = r.all(e.Subs, known)
	case api.Prim:
		e.Subs = r.all(e.Subs, known)
		return r.prim(e)
	case api.App:
		subs := r.all(e.Subs, known)
		return r.app(subs[0], subs[1:])
	case api.Let:
		return r.let(e, known)
	case api.Case:
		return r.cas(e, known)
	}
	return e
}

func (r *reference) prim(e api.Expr) api.Expr {
	if e.Op < api.Add || e.Op > api.Le || e.Subs[0].Kind != api.Lit || e.Subs[1].Kind != api.Lit {
		return e
	}
	a, b := e.Subs[0].N, e.Subs[1].N
	if b == 0 && (e.Op == api.Quot || e.Op == api.Rem) {
		return e
	}
	r.did("Prim")
	truth := map[bool]api.Expr{false: con(api.False), true: con(api.True)}
	switch e.Op {
	case api.Add:
		return lit(a + b)
	case api.Minus:
		return lit(a - b)
	case api.Mul:
		return lit(a * b)
	case api.Quot:
		return lit(a / b)
	case api.Rem:
		return lit(a % b)
	case api.Eq:
		return truth[a == b]
	case api.Lt:
		return truth[a < b]
	}
	return truth[a <= b]
}

func (r *reference) app(f api.Expr, args []api.Expr) api.Expr {
	switch {
	case f.Kind == api.App:
		r.did("App of App")
		return app(slices.Concat(f.Subs, args)...)
	case f.Kind == api.Let:
		r.did("App of Let")
		return let(app(slices.Concat(f.Subs, args)...), f.Binds...)
	case f.Kind == api.Case && len(f.Alts) == 1:
		r.did("App of Case")
		a := f.Alts[0]
		a.Body = app(slices.Concat([]api.Expr{a.Body}, args)...)
		return cas(f.Subs[0], f.Name, a)
	case isRaise(f):
		r.did("App of Raise")
		return f
	case f.Kind == api.Lam:
		return r.enter(f.Names, f.Subs[0], args)
	}
	return app(slices.Concat([]api.Expr{f}, args)...)
}

func (r *reference) enter(names []string, body api.Expr, args []api.Expr) api.Expr {
	a := min(len(names), len(args))
	var binds []api.Bind
	for i := range a {
		binds = append(binds, bind(names[i], args[i]))
	}
	switch {
	case len(args) > a:
		r.did("App of Lam, more")
		body = app(slices.Concat([]api.Expr{body}, args[a:])...)
	case len(names) > a:
		r.did("App of Lam, fewer")
		body = api.Expr{Kind: api.Lam, Names: names[a:], Subs: []api.Expr{body}}
	default:
		r.did("App of Lam")
	}
	return let(body, binds...)
}

func (r *reference) let(e api.Expr, known []api.Bind) api.Expr {
	var binds []api.Bind
	inside := slices.Clone(known)
	for _, b := range e.Binds {
		b.Expr = r.simple(b.Expr, known)
		binds = append(binds, b)
		if isShape(b.Expr) {
			inside = append(inside, b)
		}
	}
	body := r.simple(e.Subs[0], inside)
	live, groups := occur.Live(body, binds...), core.Groups(binds...)
	some := func(indices []int) []api.Bind {
		var made []api.Bind
		for _, i := range indices {
			made = append(made, binds[i])
		}
		return made
	}
	switch {
	case len(live) == 0:
		r.did("Let 1, none")
		return body
	case len(live) < len(binds):
		r.did("Let 1")
		return let(body, some(live)...)
	case len(groups) > 1:
		r.did("Let 2")
		for i := len(groups) - 1; i >= 0; i-- {
			body = let(body, some(groups[i])...)
		}
		return body
	case len(binds) == 1:
		return r.single(binds[0].Name, binds[0].Expr, body)
	}
	return let(body, binds...)
}

func (r *reference) single(x string, e, body api.Expr) api.Expr {
	if !slices.Contains(core.Free(e), x) {
		if isAtom(e) {
			r.did("Let 3, atom")
			return core.Replace(body, x, e)
		}
		if occur.Once(body, x) {
			r.did("Let 3, Once")
			return core.Replace(body, x, e)
		}
	}
	if e.Kind == api.Let {
		if inner := e.Subs[0]; inner.Kind == api.Lit || inner.Kind == api.Lam || inner.Kind == api.Con {
			r.did("Let 4")
			return let(let1(x, inner, body), e.Binds...)
		}
	}
	return let1(x, e, body)
}

func (r *reference) cas(e api.Expr, known []api.Bind) api.Expr {
	s := r.simple(e.Subs[0], known)
	var alts []api.Alt
	for _, a := range e.Alts {
		inside := slices.Clone(known)
		if a.Kind != api.Default {
			shape := lit(a.N)
			if a.Kind == api.ConAlt {
				shape = con(a.Name)
				for _, name := range a.Names {
					shape.Subs = append(shape.Subs, v(name))
				}
			}
			inside = append(inside, bind(e.Name, shape))
			if s.Kind == api.Var {
				inside = append(inside, bind(s.Name, shape))
			}
		}
		a.Body = r.simple(a.Body, inside)
		alts = append(alts, a)
	}
	return r.choose(s, e.Name, alts, known)
}

func (r *reference) choose(s api.Expr, name string, alts []api.Alt, known []api.Bind) api.Expr {
	at := matching(s, alts)
	switch {
	case s.Kind == api.Lit && at >= 0:
		r.did("Case 1")
		return let1(name, s, alts[at].Body)
	case s.Kind == api.Con && at >= 0:
		r.did("Case 2")
		a := alts[at]
		value := s
		if a.Kind == api.ConAlt {
			value = con(s.Name)
			for _, field := range a.Names {
				value.Subs = append(value.Subs, v(field))
			}
		}
		made := let1(name, value, a.Body)
		for i := len(a.Names) - 1; i >= 0; i-- {
			made = let1(a.Names[i], s.Subs[i], made)
		}
		return made
	case s.Kind == api.Var:
		if shape, found := shapeIn(known, s.Name); found {
			if at := matching(shape, alts); at >= 0 {
				r.did("Case 3")
				made := alts[at].Body
				for i, field := range alts[at].Names {
					made = core.Replace(made, field, shape.Subs[i])
				}
				return core.Replace(made, name, s)
			}
		}
	case s.Kind == api.Let:
		r.did("Case 4")
		return let(cas(s.Subs[0], name, alts...), s.Binds...)
	case s.Kind == api.Case && len(s.Alts) == 1:
		r.did("Case 5")
		a := s.Alts[0]
		a.Body = cas(a.Body, name, alts...)
		return cas(s.Subs[0], s.Name, a)
	case s.Kind == api.Case && !slices.ContainsFunc(s.Alts, isOpen):
		r.did("Case 6")
		return r.join(s, name, alts)
	case s.Kind == api.Lam && at >= 0:
		r.did("Case 7")
		return let1(name, s, alts[at].Body)
	case isRaise(s):
		r.did("Case 8")
		return s
	}
	return cas(s, name, alts...)
}

// isOpen says whether the value of a Body is not to be seen.
func isOpen(a api.Alt) bool {
	return a.Body.Kind != api.Lit && a.Body.Kind != api.Con && !isRaise(a.Body)
}

func (r *reference) join(s api.Expr, name string, alts []api.Alt) api.Expr {
	var joins []api.Bind
	for _, a := range alts {
		j, m := r.fresh(), r.fresh()
		names := append(slices.Clone(a.Names), m)
		joins = append(joins, bind(j, api.Expr{Kind: api.Lam, Names: names, Subs: []api.Expr{core.Replace(a.Body, name, v(m))}}))
	}
	inner := cas(s.Subs[0], s.Name)
	for _, b := range s.Alts {
		q := r.fresh()
		var calls []api.Alt
		for i, a := range alts {
			call := app(v(joins[i].Name))
			var names []string
			for range a.Names {
				names = append(names, r.fresh())
				call.Subs = append(call.Subs, v(names[len(names)-1]))
			}
			call.Subs = append(call.Subs, v(q))
			a.Names, a.Body = names, call
			calls = append(calls, a)
		}
		b.Body = cas(b.Body, q, calls...)
		inner.Alts = append(inner.Alts, b)
	}
	made := inner
	for i := len(joins) - 1; i >= 0; i-- {
		made = let(made, joins[i])
	}
	return made
}

// refPass is a program that Lint accepts behind one pass.
func refPass(p api.Program, rules map[string]int) api.Program {
	r := &reference{next: core.Next(p), rules: rules}
	var known []api.Bind
	for _, b := range p.Binds {
		if isShape(b.Expr) {
			known = append(known, b)
		}
	}
	q := api.Program{Cons: p.Cons}
	for _, b := range p.Binds {
		q.Binds = append(q.Binds, bind(b.Name, r.simple(b.Expr, known)))
	}
	reached := occur.Reached(q)
	q.Binds = slices.DeleteFunc(q.Binds, func(b api.Bind) bool { return !slices.Contains(reached, b.Name) })
	at := slices.IndexFunc(q.Binds, func(b api.Bind) bool {
		return b.Name != api.Main && (b.Expr.Kind == api.Lit || b.Expr.Kind == api.Var && b.Expr.Name != b.Name)
	})
	if at >= 0 {
		r.did("renamed")
		gone := q.Binds[at]
		q.Binds = slices.Delete(q.Binds, at, at+1)
		for i := range q.Binds {
			q.Binds[i].Expr = core.Replace(q.Binds[i].Expr, gone.Name, gone.Expr)
		}
	}
	if errno := core.Lint(q); errno != api.OK {
		r.did("refused " + errno.Error())
		return p
	}
	return q
}
