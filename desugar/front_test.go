package desugar_test

import (
	"reflect"
	"strconv"
	"strings"
	"testing"

	"teasel/api"
	"teasel/core"
	"teasel/desugar"
)

// wantFront is for the Diag of files.
func wantFront(t *testing.T, want api.Diag, all ...api.File) {
	t.Helper()
	p, d := desugar.Front(all)
	if d != want || (d != api.Diag{}) && !reflect.DeepEqual(p, api.Program{}) {
		t.Errorf("%d files: got %+v with %d binds, want %+v", len(all), d, len(p.Binds), want)
	}
}

// chain is so many files, each of which imports the next one, and a number that
// goes through all of them.
func chain(count int) []api.File {
	var all []api.File
	for i := range count {
		text := "module M" + strconv.Itoa(i) + " where\nimport M" + strconv.Itoa(i+1) + "\nf" + strconv.Itoa(i) + " = f" + strconv.Itoa(i+1) + " + 1"
		switch {
		case i == count-1:
			text = "module M" + strconv.Itoa(i) + " where\nf" + strconv.Itoa(i) + " = 1"
		case i == 0:
			text = "module Main where\nimport M1\nmain = return f1"
		}
		all = append(all, api.File{Name: "f" + strconv.Itoa(i), Text: text})
	}
	return all
}

// 16 files and 17, and none.
func TestFiles(t *testing.T) {
	p, d := desugar.Front(chain(16))
	if got := run(p, ""); d != (api.Diag{}) || got != done(15) {
		t.Errorf("16 files: %+v, %+v", d, got)
	}
	wantFront(t, api.Diag{Number: api.ErrBig}, chain(17)...)
	wrong := append(chain(15), api.File{Name: "x", Text: "'"}, api.File{Name: "y", Text: "'"})
	wantFront(t, api.Diag{Number: api.ErrBig}, wrong...)
	wantFront(t, api.Diag{File: "x", Line: 1, Col: 1, Number: api.ErrByte}, wrong[:16]...)
	wantFront(t, api.Diag{Number: api.ErrMain})
}

// Errors of lex, layout and parse, in the first file and in later ones.
func TestFirstErrors(t *testing.T) {
	right := api.File{Name: "right", Text: "module Main where\nmain = return 1\n"}
	byteErr := api.File{Name: "byte", Text: "module A where\nx = 'a"}
	longErr := api.File{Name: "long", Text: strings.Repeat(" ", api.MaxFile+1)}
	layoutErr := api.File{Name: "layout", Text: "module C where\nx = (do y\nz)"}
	parseErr := api.File{Name: "parse", Text: "module B where )\n"}
	nestErr := api.File{Name: "nest", Text: "module B where\nx = " + many(65, "(") + "1" + many(65, ")")}
	patErr := api.File{Name: "pat", Text: "module B where\nx = _\n"}
	typeErr := api.File{Name: "type", Text: "module B where\nx = 1 2\n"}
	for _, c := range []struct {
		file api.File
		want api.Diag
	}{
		{byteErr, api.Diag{File: "byte", Line: 2, Col: 5, Number: api.ErrByte}},
		{longErr, api.Diag{File: "long", Line: 1, Col: 1, Number: api.ErrLong}},
		{layoutErr, api.Diag{File: "layout", Line: 3, Col: 1, Number: api.ErrLayout}},
		{parseErr, api.Diag{File: "parse", Line: 1, Col: 16, Number: api.ErrParse}},
		{nestErr, api.Diag{File: "nest", Line: 2, Col: 68, Number: api.ErrNest}},
		{patErr, api.Diag{File: "pat", Line: 2, Col: 5, Number: api.ErrPattern}},
	} {
		wantFront(t, c.want, c.file)
		wantFront(t, c.want, right, c.file)
		wantFront(t, c.want, right, right, typeErr, c.file)
		for _, other := range []api.File{byteErr, longErr, layoutErr, parseErr} {
			wantFront(t, c.want, c.file, other)
			wantFront(t, c.want, right, c.file, other, right)
		}
		unnamed := c.file
		unnamed.Name, c.want.File = "", ""
		wantFront(t, c.want, right, unnamed)
	}
	// of one file, that of lex comes first, then that of layout
	wantFront(t, api.Diag{File: "f", Line: 4, Col: 1, Number: api.ErrByte}, api.File{Name: "f", Text: "module C where )\nx = (do y\nz)\n'"})
	wantFront(t, api.Diag{File: "f", Line: 3, Col: 1, Number: api.ErrLayout}, api.File{Name: "f", Text: "module module C where\nx = (do y\nz)\n"})
}

// Errors of infer.Types have the File that is a module's name, and come ahead of
// ErrMain; the Prelude is a module like others.
func TestTypeErrors(t *testing.T) {
	for _, c := range []struct {
		text string
		want api.Diag
	}{
		{"f = x", api.Diag{Line: 2, Col: 5, Number: api.ErrUnknown}},
		{"import A", api.Diag{Line: 2, Col: 1, Number: api.ErrImport}},
		{"f = 1\nf = 2", api.Diag{Line: 3, Col: 1, Number: api.ErrTwice}},
		{"f = 1 == 2 == 3", api.Diag{Line: 2, Col: 12, Number: api.ErrMix}},
		{"data T = C Maybe", api.Diag{Line: 2, Col: 1, Number: api.ErrKind}},
		{"instance Eq Int", api.Diag{Line: 2, Col: 1, Number: api.ErrOverlap}},
		{"f = 1 2", api.Diag{Line: 2, Col: 1, Number: api.ErrType}},
		{"f = show id", api.Diag{Line: 2, Col: 1, Number: api.ErrInstance}},
		{"class C a where { c :: a }\nf = show c", api.Diag{Line: 3, Col: 1, Number: api.ErrAmbiguous}},
	} {
		c.want.File = "Main"
		wantWrong(t, c.want, c.text)
		wantWrong(t, c.want, c.text+"\nmain = 1")
		wantWrong(t, c.want, c.text+"\nmain = return 1")
		c.want.File = "M"
		wantWrong(t, c.want, "module M where\n"+c.text)
	}
	wantFront(t, api.Diag{File: "Prelude", Line: 1, Col: 1, Number: api.ErrModule}, api.File{Name: "f", Text: "module Prelude where\n"})
	wantFront(t, api.Diag{File: "Prim", Line: 1, Col: 1, Number: api.ErrModule}, api.File{Name: "f", Text: "module Prim where\n"})
	wantFront(t, api.Diag{File: "A", Line: 1, Col: 1, Number: api.ErrModule}, api.File{Name: "f", Text: "module A where\n"}, api.File{Name: "g", Text: "module A where\n"})
	if _, d := desugar.Core(api.Node{Kind: 99}); d != (api.Diag{Number: api.ErrTree}) {
		t.Error(d)
	}
}

// The names of the Prelude are there without an import, and only those that are
// imported if there is one.
func TestPreludeNames(t *testing.T) {
	wantRun(t, "", done(3), "import Prelude\nmain = return (length [1, 2, 3])")
	wantRun(t, "", done(3), "import Prelude (return, length)\nmain = return (length [1, 2, 3])")
	wantRun(t, "", done(4), "import Prelude (Monad)\nmain = return (length [1])\nlength x = 4")
	wantRun(t, "", done(5), "import Prelude ()\nimport Prim\nmain = do { x <- primReturn 5; primReturn x }")
	wantWrong(t, api.Diag{File: "Main", Line: 3, Col: 16, Number: api.ErrUnknown}, "import Prelude (return)\nmain = return (length [1])")
	wantRun(t, "", done(6), "main = return (length [1])\nlength x = 6")
	wantRun(t, "", done(1), "module A where\nlength x = 6", "main = return (length [1])")
	wantWrong(t, api.Diag{File: "Main", Line: 3, Col: 16, Number: api.ErrMany}, "module A where\nlength x = 6", "import A\nmain = return (length [1])")
}

func lintError(errno api.Errno) api.Diag { return api.Diag{Number: errno} }

// many is so many of a text.
func many(count int, text string) string { return strings.Repeat(text, count) }

// What core.Lint answers, behind ErrMain.
func TestLintErrors(t *testing.T) {
	const right = "\nmain = return 1"
	for _, c := range []struct {
		text string
		want api.Errno
	}{
		{"data T = C" + many(100, " Int"), api.OK},
		{"data T = C" + many(101, " Int"), api.ErrCons},
		{"data T = A | B" + many(101, " Int"), api.ErrCons},
		{"data T = C { x0 :: Int" + numbered(99, ", x% :: Int") + " }", api.OK},
		{"data T = C { x0 :: Int" + numbered(100, ", x% :: Int") + " }", api.ErrCons},
		{"data T = C0" + numbered(999, " | C%"), api.OK},
		{"data T = C0" + numbered(1000, " | C%"), api.ErrCons},
		{"class C a where {" + numbered(100, "c% :: a;") + "}", api.OK},
		{"class C a where {" + numbered(101, "c% :: a;") + "}", api.ErrCons},
		{"x = [" + many(900, "1,") + "1]", api.OK},
		{"x = [" + many(1000, "1,") + "1]", api.ErrDeep},
		{"x = \"" + many(900, "a") + "\"", api.OK},
		{"x = \"" + many(1000, "a") + "\"", api.ErrDeep},
		{"data T = C" + many(101, " Int") + "\nx = \"" + many(1000, "a") + "\"", api.ErrDeep},
	} {
		_, d := desugar.Front(files(c.text + right))
		if d != lintError(c.want) {
			t.Errorf("%.40s: got %+v, want %v", c.text, d, c.want)
		}
		wantWrong(t, errMain(1, 1), c.text)
	}
	// too many nodes come first, and are told of all modules together
	big := numbered(16, "x% = \""+many(800, "a")+"\"\n")
	var texts []string
	for i := range 15 {
		texts = append(texts, "module M"+strconv.Itoa(i)+" where\n"+big)
	}
	wantWrong(t, lintError(api.ErrBig), append(texts, right)...)
	wantWrong(t, lintError(api.ErrBig), append(texts, "x = \""+many(1000, "a")+"\"\ndata T = C"+many(101, " Int")+right)...)
	wantWrong(t, errMain(1, 1), append(texts, "x = 1")...)
	if _, d := desugar.Front(files(texts[0], "main = return 1")); d != (api.Diag{}) {
		t.Error(d)
	}
}

// numbered is texts with numbers from 1 on in place of a sign.
func numbered(count int, text string) string {
	var all strings.Builder
	for i := range count {
		all.WriteString(strings.ReplaceAll(text, "%", strconv.Itoa(i+1)))
	}
	return all.String()
}

// A program may have up to 100000 nodes, and no more: what is too great is told as
// that at once, and nothing is that is not.
func TestMostNodes(t *testing.T) {
	size := func(p api.Program) int {
		all := 0
		for _, b := range p.Binds {
			all += core.Size(b.Expr)
		}
		return all
	}
	text := func(bytes, more int) api.Node {
		n := tree(t, "module Main where\nmain = return 1\nx = [\"a\""+many(199, ",\"a\"")+"]\ny = [0"+many(more, ",1")+"]")
		for i := range n.Subs[2].Subs[1].Subs[0].Subs[1].Subs[0].Subs[0].Subs[1].Subs {
			n.Subs[2].Subs[1].Subs[0].Subs[1].Subs[0].Subs[0].Subs[1].Subs[i].Name = many(bytes, "b")
		}
		return n
	}
	prelude := tree(t, api.Prelude)
	p, d := desugar.Core(text(245, 0), prelude)
	if d != (api.Diag{}) {
		t.Fatal(d)
	}
	left := api.MaxNodes - size(p)
	if left < 0 || left > 1800 {
		t.Fatal(left)
	}
	p, d = desugar.Core(text(245, left/2), prelude)
	if d != (api.Diag{}) || api.MaxNodes-size(p) > 1 {
		t.Error(d, size(p))
	}
	if _, d = desugar.Core(text(245, left/2+1), prelude); d != lintError(api.ErrBig) {
		t.Error(d)
	}
}

// rich is a module with declarations, expressions and patterns of each sort.
const rich = `
data T a = A | C { l :: a, m :: [a] } | (:+) Int (T a)
class K a where { k :: a -> Int; j :: a }
instance K Int where { k x = x + 1; j = 7 }
instance (K a, Show a) => K (T a) where { k A = 0; k (C x ys) = k x + sum (map k ys) + g x where { g y = length (show [y]) + k [j, x] }; k (n :+ t) = n + k t }
instance K a => K [a] where { k [] = 0; k (x:xs) = k x + k xs }
f 0 "ab" y = y
f n (97:_) y | n > 5 = y
f n [97, 98] y | n > 5 = y | n < 2 = y + 1 where { z = let { } in 3; (p, q@[r, "t"]) = (n, ["s", "t"]); 1 = n }
f _ ("x") z = case (z, [z]) of { (1, _) -> 2; (w, [v]) | w == v -> 3; _ -> (\x 1 -> x) z 1 }
f n s y = do { 3 }
h x = do { a <- [x, x]; let { b = a; 2 = 3 }; (c, "u") <- [(b, "u")]; [a]; if c == b then [c] else [(const c . id) $ b] }
u x = ((x { l = 3 }, C {}, C { m = [1] }), (map (:+ A) [1], map (2 :+) [A]), ((+ 1) ((3 -) 4), map ((:+) 1) [A], k (x { m = [] })))
e x y = (show x, x == y) where { z | x == y = [x] | True = show2 y where { show2 w = if show w == show x then [w] else [] } }
o = show [] ++ "text" ++ show (k [[1, 2], [j]], let { x = do { let { y = 3 }; y } } in x)
`

// A program has as many nodes as it is said to have, whatever it consists of: so
// many modules are accepted as have 100000 nodes, and not one more.
func TestMostModules(t *testing.T) {
	mods := []api.Node{tree(t, api.Prelude), tree(t, "module Main where\nmain = return 1")}
	size := func() int {
		p, d := desugar.Core(mods...)
		if d != (api.Diag{}) {
			t.Fatal(len(mods), d)
		}
		all := 0
		for _, b := range p.Binds {
			all += core.Size(b.Expr)
		}
		return all
	}
	add := func() { mods = append(mods, tree(t, "module M"+strconv.Itoa(len(mods))+" where"+rich)) }
	add()
	one := size()
	add()
	each := size() - one
	for range (api.MaxNodes-one)/each - 1 {
		add()
	}
	if left := api.MaxNodes - size(); left < 0 || left >= each || each > 1000 {
		t.Error(left, each)
	}
	add()
	if _, d := desugar.Core(mods...); d != lintError(api.ErrBig) {
		t.Error(d)
	}
}
