package desugar_test

import (
	"strconv"
	"strings"
	"testing"
	"time"

	"teasel/api"
	"teasel/core"
	"teasel/desugar"
)

func hold20(t *testing.T, what string, do func()) {
	t.Helper()
	start := time.Now()
	do()
	if took := time.Since(start); took > 20*time.Second {
		t.Errorf("%s took %v", what, took)
	}
}

func node(kind int, name string, subs ...api.Node) api.Node {
	return api.Node{Kind: kind, Name: name, Subs: subs}
}

func call1(f, x api.Node) api.Node { return node(api.EApp, "", f, x) }

func lit(n int) api.Node { return api.Node{Kind: api.EInt, N: n} }

func rhs(e api.Node, declarations ...api.Node) api.Node {
	guard := node(api.DGuard, "", node(api.None, ""), e)
	return node(api.DRhs, "", node(api.List, "", guard), node(api.List, "", declarations...))
}

func dfun(name string, e api.Node, declarations ...api.Node) api.Node {
	return node(api.DFun, name, node(api.DClause, "", node(api.List, ""), rhs(e, declarations...)))
}

func dpat(p, e api.Node) api.Node { return node(api.DPat, "", p, rhs(e)) }

func mod(name string, declarations ...api.Node) api.Node {
	return node(api.DMod, name, node(api.None, ""), node(api.List, ""), node(api.List, "", declarations...))
}

func mainWith(declarations ...api.Node) api.Node {
	return mod("Main", append([]api.Node{dfun("main", call1(node(api.EVar, "return"), lit(1)))}, declarations...)...)
}

// wantNumber2 is for the error of trees, with the Prelude.
func wantErrno(t *testing.T, what string, want api.Errno, mods ...api.Node) {
	t.Helper()
	hold20(t, what, func() {
		p, d := desugar.Core(append(mods, tree(t, api.Prelude))...)
		if d.Number != want || want != api.OK && len(p.Binds)+len(p.Cons) > 0 {
			t.Errorf("%s: got %+v, want %v", what, d, want)
		}
		if want == api.OK && core.Lint(p) != api.OK {
			t.Errorf("%s: Lint: %v", what, core.Lint(p))
		}
	})
}

// grown is the same around something so many times.
func grown(times int, n api.Node, around func(n api.Node) api.Node) api.Node {
	for range times {
		n = around(n)
	}
	return n
}

// Trees that are as deep as they may be, each of which makes a program that is too
// great or too deep.
func TestDeep(t *testing.T) {
	id := node(api.EVar, "id")
	v := node(api.EVar, "x")
	unit := node(api.ECon, "()")
	for what, around := range map[string]func(n api.Node) api.Node{
		"EApp": func(n api.Node) api.Node { return call1(id, n) },
		"ELam": func(n api.Node) api.Node { return node(api.ELam, "", node(api.List, "", node(api.PWild, "")), n) },
		"ELam1": func(n api.Node) api.Node {
			return node(api.ELam, "", node(api.List, "", api.Node{Kind: api.PInt, N: 1}), n)
		},
		"ELet":  func(n api.Node) api.Node { return node(api.ELet, "", node(api.List, "", dfun("y", v)), n) },
		"ELet2": func(n api.Node) api.Node { return node(api.ELet, "", node(api.List, "", dfun("y", n)), v) },
		"where": func(n api.Node) api.Node {
			return node(api.ELet, "", node(api.List, "", dfun("y", v, dfun("z", n))), v)
		},
		"EIf": func(n api.Node) api.Node { return node(api.EIf, "", node(api.ECon, "True"), n, v) },
		"ECase": func(n api.Node) api.Node {
			return node(api.ECase, "", n, node(api.EAlt, "", node(api.PVar, "y"), rhs(n0())))
		},
		"EAlt": func(n api.Node) api.Node {
			return node(api.ECase, "", v, node(api.EAlt, "", node(api.PWild, ""), rhs(n)))
		},
		"EDo":    func(n api.Node) api.Node { return node(api.EDo, "", n) },
		"EDo2":   func(n api.Node) api.Node { return node(api.EDo, "", node(api.EList, ""), n) },
		"EDo3":   func(n api.Node) api.Node { return node(api.EDo, "", node(api.SLet, "", node(api.List, "")), n) },
		"ETup":   func(n api.Node) api.Node { return node(api.ETup, "", unit, n) },
		"EList":  func(n api.Node) api.Node { return node(api.EList, "", n) },
		"ELeft":  func(n api.Node) api.Node { return node(api.ELeft, "", n, node(api.EOp, "$")) },
		"ERight": func(n api.Node) api.Node { return node(api.ERight, "", node(api.EOp, "$"), n) },
		"EMake":  func(n api.Node) api.Node { return node(api.EMake, "R", node(api.EField, "l", n)) },
		"EPut":   func(n api.Node) api.Node { return node(api.EPut, "", n, node(api.EField, "m", lit(1))) },
		"EOps":   func(n api.Node) api.Node { return node(api.EOps, "", v, node(api.EOp, "$"), n) },
	} {
		for _, times := range []int{1 << 16, 20000} {
			e := grown(times, node(api.EList, ""), around)
			hold20(t, what, func() {
				_, d := desugar.Core(mainWith(dfun("x", node(api.EVar, "error")), dfun("f", e), node(api.DData, "R", node(api.List, "", node(api.TVar, "a")), node(api.List, "", node(api.DCon, "R", node(api.List, "", node(api.DField, "l", node(api.TVar, "a")), node(api.DField, "m", node(api.TCon, "Int"))))))), tree(t, api.Prelude))
				switch d.Number {
				case api.ErrBig, api.ErrDeep, api.ErrType:
				case api.OK, api.ErrAmbiguous:
					if what[:3] != "EDo" {
						t.Errorf("%s: %+v", what, d)
					}
				default:
					t.Errorf("%s: %+v", what, d)
				}
			})
		}
	}
}

func n0() api.Node { return node(api.EList, "") }

// What is deep or great in the tree and yet makes no great program.
func TestDeepAndSmall(t *testing.T) {
	f := node(api.EVar, "f")
	spine := grown(20000, f, func(n api.Node) api.Node { return call1(n, lit(1)) })
	wantErrno(t, "many arguments", api.OK, mainWith(dfun("f", node(api.EVar, "error")), dfun("g", spine)))
	lets := make([]api.Node, 20000)
	for i := range lets {
		lets[i] = node(api.SLet, "", node(api.List, ""))
	}
	lets = append(lets, node(api.EList, ""))
	wantErrno(t, "lets", api.OK, mainWith(dfun("f", node(api.EDo, "", lets...))))
	for i := range lets[:20000] {
		lets[i] = node(api.SLet, "", node(api.List, "", dpat(api.Node{Kind: api.PInt, N: 1}, lit(2))))
	}
	wantErrno(t, "lets of patterns", api.OK, mainWith(dfun("f", node(api.EDo, "", lets...))))
	deepType := grown(1<<16, node(api.TCon, "Int"), func(n api.Node) api.Node { return node(api.TApp, "", node(api.TCon, "[]"), n) })
	wantErrno(t, "types", api.OK, mainWith(node(api.DData, "T", node(api.List, ""), node(api.List, "", node(api.DCon, "C", node(api.List, "", deepType))))))
	var declarations []api.Node
	for _, name := range strings.Fields(numbered(20000, "T% ")) {
		declarations = append(declarations, node(api.DData, name, node(api.List, ""), node(api.List, "", node(api.DCon, name, node(api.List, "")))))
	}
	wantErrno(t, "types", api.OK, mainWith(declarations...))
	patterns := grown(900, node(api.PWild, ""), func(n api.Node) api.Node { return node(api.PTup, "", n, node(api.PWild, "")) })
	wantErrno(t, "a pattern of nothing", api.OK, mainWith(dpat(patterns, node(api.EVar, "error"))))
}

// Many and great things.
func TestGreat(t *testing.T) {
	numbers := make([]api.Node, 1<<17)
	for i := range numbers {
		numbers[i] = lit(i)
	}
	patterns := make([]api.Node, 1<<17)
	for i := range patterns {
		patterns[i] = api.Node{Kind: api.PInt, N: i}
	}
	wilds := make([]api.Node, 1<<17)
	for i := range wilds {
		wilds[i] = node(api.PWild, "")
	}
	great := strings.Repeat("a", 1<<22)
	list := func(kind int, nodes []api.Node) api.Node { return node(kind, "", nodes...) }
	clause := func(p api.Node) api.Node { return node(api.DClause, "", node(api.List, "", p), rhs(lit(1))) }
	wantErrno(t, "a long list", api.ErrBig, mainWith(dfun("f", list(api.EList, numbers))))
	wantErrno(t, "a list", api.ErrDeep, mainWith(dfun("f", list(api.EList, numbers[:2000]))))
	wantErrno(t, "a long text", api.ErrBig, mainWith(dfun("f", node(api.EStr, great))))
	wantErrno(t, "a text", api.ErrDeep, mainWith(dfun("f", node(api.EStr, great[:2000]))))
	wantErrno(t, "a long pattern", api.ErrBig, mainWith(node(api.DFun, "f", clause(list(api.PList, patterns)))))
	wantErrno(t, "a long pattern of wildcards", api.ErrBig, mainWith(node(api.DFun, "f", clause(list(api.PList, wilds)))))
	wantErrno(t, "wildcards ahead of a text", api.ErrBig, mainWith(node(api.DFun, "f", clause(list(api.PList, append(wilds[:1<<16:1<<16], node(api.PList, "", node(api.PStr, "a"))))))))
	wantErrno(t, "wildcards behind a text", api.ErrBig, mainWith(node(api.DFun, "f", clause(node(api.PTup, "", node(api.PStr, "a"), list(api.PList, wilds))))))
	wantErrno(t, "a pattern", api.ErrDeep, mainWith(node(api.DFun, "f", clause(list(api.PList, patterns[:2000])))))
	wantErrno(t, "a long text as a pattern", api.ErrBig, mainWith(node(api.DFun, "f", clause(node(api.PStr, great)))))
	wantErrno(t, "a text as a pattern", api.ErrDeep, mainWith(node(api.DFun, "f", clause(node(api.PStr, great[:2000])))))
	deep := func(times int) api.Node {
		return grown(times, node(api.PWild, ""), func(n api.Node) api.Node { return node(api.PCon, "Just", n) })
	}
	_, d := desugar.Core(mainWith(node(api.DFun, "f", clause(deep(60000)))), tree(t, api.Prelude))
	if d.Number != api.ErrType {
		t.Error(d)
	}
	as := func(times int) api.Node {
		n := node(api.PWild, "")
		for i := range times {
			n = node(api.PAs, "x"+strings.Repeat("y", i%97)+numbered(i/97%300, "z"), n)
		}
		return n
	}
	hold20(t, "as", func() { desugar.Core(mainWith(node(api.DFun, "f", clause(as(20000)))), tree(t, api.Prelude)) })
	clauses := make([]api.Node, 20000)
	for i := range clauses {
		clauses[i] = clause(patterns[i])
	}
	wantErrno(t, "many clauses", api.ErrBig, mainWith(node(api.DFun, "f", clauses...)))
	wantErrno(t, "clauses", api.ErrDeep, mainWith(node(api.DFun, "f", clauses[:2000]...)))
	clauses[0] = clause(node(api.PWild, ""))
	for i := range clauses[1:] {
		clauses[1+i] = clause(grown(8, node(api.PWild, ""), func(n api.Node) api.Node { return node(api.PTup, "", n, node(api.PWild, "")) }))
	}
	wantErrno(t, "clauses that are never looked at", api.OK, mainWith(node(api.DFun, "f", clauses...)))
	statements := make([]api.Node, 20001)
	for i := range statements {
		statements[i] = node(api.EVar, "m")
	}
	wantErrno(t, "statements", api.ErrBig, mainWith(dfun("m", node(api.EList, "")), dfun("f", node(api.EDo, "", statements...))))
	wantErrno(t, "some statements", api.ErrDeep, mainWith(dfun("m", node(api.EList, "")), dfun("f", node(api.EDo, "", statements[:2000]...))))
	operands := []api.Node{lit(1)}
	for range 1 << 16 {
		operands = append(operands, node(api.EOp, "+"), lit(1))
	}
	wantErrno(t, "operands", api.ErrBig, mainWith(dfun("f", node(api.EOps, "", operands...))))
	wantErrno(t, "some operands", api.ErrDeep, mainWith(dfun("f", node(api.EOps, "", operands[:4001]...))))
}

// Constructors of very many fields, whose names would be far more than a program
// may have.
func TestManyFields(t *testing.T) {
	fields, types := make([]api.Node, 20000), make([]api.Node, 20000)
	for i, name := range strings.Fields(numbered(len(fields), "x% ")) {
		fields[i] = node(api.DField, name, node(api.TCon, "Int"))
		types[i] = node(api.TCon, "Int")
	}
	data := func(count int) api.Node {
		return node(api.DData, "T", node(api.List, ""), node(api.List, "", node(api.DCon, "C", node(api.List, "", fields[:count]...)), node(api.DCon, "D", node(api.List, "", types[:count]...))))
	}
	wantErrno(t, "fields", api.ErrCons, mainWith(data(2000)))
	wantErrno(t, "many fields", api.ErrCons, mainWith(data(20000)))
	patterns, puts, makes := make([]api.Node, 2000), make([]api.Node, 2000), make([]api.Node, 2000)
	for i := range patterns {
		patterns[i] = node(api.DClause, "", node(api.List, "", node(api.PMake, "D")), node(api.DRhs, "", node(api.List, "", node(api.DGuard, "", node(api.ECon, "True"), lit(1))), node(api.List, "")))
		puts[i] = node(api.EPut, "", node(api.EVar, "y"), node(api.EField, "x1", lit(1)))
		makes[i] = node(api.EMake, "D")
	}
	wantErrno(t, "patterns", api.ErrCons, mainWith(data(20000), node(api.DFun, "f", patterns...)))
	wantErrno(t, "updates", api.ErrBig, mainWith(data(200), dfun("y", node(api.EVar, "error")), dfun("f", node(api.EList, "", puts...))))
	wantErrno(t, "records", api.ErrBig, mainWith(data(200), dfun("f", node(api.EList, "", makes...))))
	constructors := make([]api.Node, 60)
	for i := range constructors {
		constructors[i] = node(api.ECon, "D")
	}
	wantErrno(t, "constructors", api.ErrBig, mainWith(data(2000), dfun("f", call1(call1(node(api.EVar, "const"), lit(1)), node(api.EList, "", constructors...)))))
}

// Instances without functions of classes with very many methods.
func TestManyMethods(t *testing.T) {
	var methods, declarations []api.Node
	for _, name := range strings.Fields(numbered(20000, "c% ")) {
		methods = append(methods, node(api.DMethod, name, node(api.TVar, "a")))
	}
	declarations = append(declarations, node(api.DClass, "K", node(api.TVar, "a"), node(api.List, "", methods...)))
	for _, name := range strings.Fields(numbered(20000, "T% ")) {
		declarations = append(declarations, node(api.DData, name, node(api.List, ""), node(api.List, "")), node(api.DInst, "K", node(api.List, ""), node(api.TCon, name), node(api.List, "")))
	}
	wantErrno(t, "methods", api.ErrBig, mainWith(declarations...))
}

// Preds that would come to very many dictionaries, and such that come to very deep
// ones.
func TestManyDictionaries(t *testing.T) {
	const l = "main = return 1\nclass L m where { l :: m a -> m [a]; k :: m a -> m (Maybe a); j :: m a -> m (Maybe [a]) }\nclass S a where { s :: a -> Int }\nh0 x = s x\n"
	wantErrno(t, "preds", api.OK, tree(t, whole(l+numbered2(11, "h% x = h& (l x) + (h& (k x) + h& (j x))\n"))))
	// main's preds, of a type that is doubled again and again
	const d = "class L m where { l :: m a -> m [a] }\nclass S a where { s :: a -> IO Int }\ninstance S a => S (Maybe a) where { s x = return 1 }\ninstance S Int\ninstance S a => S [a]\ninstance L Maybe where { l x = Nothing }\n"
	wantErrno(t, "deep dictionaries", api.OK, tree(t, whole(d+"main = s (l0 (Just 1))\nl0 x = l x\n"+numbered2(6, "l% x = l& (l& x)\n"))))
}

// Beyond the document's bounds calls end too.
func TestDeeperThanBounds(t *testing.T) {
	x, error1 := node(api.EVar, "x"), dfun("x", node(api.EVar, "error"))
	for what, e := range map[string]api.Node{
		"binds": grown(1<<18, x, func(n api.Node) api.Node { return node(api.ELet, "", node(api.List, "", dfun("y", n)), x) }),
		"lets":  grown(1<<18, x, func(n api.Node) api.Node { return node(api.ELet, "", node(api.List, ""), n) }),
		"cases": grown(1<<18, x, func(n api.Node) api.Node {
			return node(api.ECase, "", x, node(api.EAlt, "", node(api.PWild, ""), rhs(n)))
		}),
	} {
		hold20(t, what, func() { desugar.Core(mainWith(error1, dfun("f", e)), tree(t, api.Prelude)) })
	}
	for what, p := range map[string]api.Node{
		"PAs":  grown(1<<18, node(api.PStr, "a"), func(n api.Node) api.Node { return node(api.PAs, "y", n) }),
		"PTup": grown(1<<18, node(api.PStr, "a"), func(n api.Node) api.Node { return node(api.PTup, "", n, node(api.PWild, "")) }),
	} {
		i := 0
		for q := &p; q.Kind == api.PAs; q = &q.Subs[0] { // all have names of their own
			q.Name = "y" + strconv.Itoa(i)
			i++
		}
		f := node(api.DFun, "f", node(api.DClause, "", node(api.List, "", p), rhs(lit(1))))
		hold20(t, what, func() { desugar.Core(mainWith(f), tree(t, api.Prelude)) })
	}
}

// What is no tree, or has no end.
func TestNoTrees(t *testing.T) {
	prelude := tree(t, api.Prelude)
	round := mainWith(dfun("f", call1(lit(1), lit(2))))
	e := &round.Subs[2].Subs[1].Subs[0].Subs[1].Subs[0].Subs[0].Subs[1]
	e.Subs[1] = *e
	shared := lit(1)
	for range 60 {
		shared = node(api.ETup, "", shared, shared)
	}
	for what, n := range map[string]api.Node{
		"nothing":   {},
		"a number":  lit(1),
		"a list":    node(api.EList, ""),
		"round":     round,
		"shared":    mainWith(dfun("f", shared)),
		"no main":   mod("Main", node(api.DFun, "main")),
		"wild":      mainWith(dfun("f", node(api.EWild, ""))),
		"wrong sub": mainWith(dfun("f", node(api.DFun, "g"))),
	} {
		wantErrno(t, what, api.ErrTree, n)
		hold20(t, what, func() {
			if _, d := desugar.Core(prelude, n, n); d != (api.Diag{Number: api.ErrTree}) {
				t.Errorf("%s: %+v", what, d)
			}
		})
	}
}
