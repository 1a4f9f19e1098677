package classes_test

import (
	"maps"
	"math/rand"
	"slices"
	"strconv"
	"strings"
	"testing"

	"teasel/api"
	"teasel/classes"
)

// A program is random modules, with what Insts must answer for them.
type program struct {
	*rand.Rand
	tidy    bool                // whether no two instances overlap
	texts   map[string]string   // by the Names of modules
	imports map[string][]string // likewise, what each imports
	insts   map[string][]api.Inst
	lines   map[string][]int // the lines at which these are
}

// A thing is a class or a type, by its name, that a module may use.
type thing struct {
	name, qualified string
	count           int // of the arguments that a class leaves to its types, or that a type takes
}

// newProgram makes modules, each of which may import those made before it. The
// names of their classes and types all differ, so that each may use all.
func newProgram(seed int64) *program {
	p := &program{rand.New(rand.NewSource(seed)), seed%2 == 0, map[string]string{}, map[string][]string{}, map[string][]api.Inst{}, map[string][]int{}}
	cs := map[string][]thing{}
	ts := map[string][]thing{}
	var names []string
	for i := range 1 + p.Intn(4) {
		name := string(rune('A'+p.Intn(26))) + strconv.Itoa(i)
		usable, takes := []thing{}, []thing{{"Int", "Prim.Int", 0}, {"Bool", "Prim.Bool", 0}, {"IO", "Prim.IO", 1}}
		for _, earlier := range names {
			if p.Intn(3) > 0 {
				p.imports[name] = append(p.imports[name], earlier)
				usable, takes = append(usable, cs[earlier]...), append(takes, ts[earlier]...)
			}
		}
		for j := range p.Intn(3) {
			c := "C" + strconv.Itoa(i) + strconv.Itoa(j)
			cs[name] = append(cs[name], thing{c, name + "." + c, p.Intn(5) / 4})
			d := "T" + strconv.Itoa(i) + strconv.Itoa(j)
			ts[name] = append(ts[name], thing{d, name + "." + d, p.Intn(4)})
		}
		p.module(name, cs[name], ts[name], append(usable, cs[name]...), append(takes, ts[name]...))
		names = append(names, name)
	}
	return p
}

// module writes a module with its own classes and types, and instances.
func (p *program) module(name string, classes, types, usable, takes []thing) {
	lines := []string{"module " + name + " where"}
	for _, other := range p.imports[name] {
		lines = append(lines, "import "+other)
	}
	for _, c := range classes {
		lines = append(lines, "class "+c.name+" f where { m"+c.name+" :: f"+[]string{"", " f1"}[c.count]+" }")
	}
	for _, t := range types {
		line := "data " + t.name
		for j := range t.count {
			line += " v" + strconv.Itoa(j)
		}
		lines = append(lines, line)
	}
	for range p.Intn(7) {
		text, inst, found := p.instance(usable, takes)
		if found && !(p.tidy && p.has(inst)) {
			lines = append(lines, "-- an instance", text)
			p.insts[name] = append(p.insts[name], inst)
			p.lines[name] = append(p.lines[name], len(lines))
		}
	}
	p.texts[name] = strings.Join(lines, "\n") + "\n"
}

// instance is one of a class whose types take as many arguments as it leaves
// them, as it is written.
func (p *program) instance(usable, takes []thing) (string, api.Inst, bool) {
	if len(usable) == 0 {
		return "", api.Inst{}, false
	}
	c, t := usable[p.Intn(len(usable))], takes[p.Intn(len(takes))]
	count := t.count - c.count
	if count < 0 {
		return "", api.Inst{}, false
	}
	inst := api.Inst{Class: c.qualified, Con: t.qualified, Args: count}
	var context, arguments []string
	for range count {
		arguments = append(arguments, "w"+strconv.Itoa(p.Intn(100))+"x"+strconv.Itoa(len(arguments)))
	}
	for count > 0 && p.Intn(4) > 0 {
		at, class := p.Intn(count), usable[p.Intn(len(usable))]
		if class.count > 0 {
			continue
		}
		context = append(context, class.name+" "+arguments[at])
		if need := (api.Need{Class: class.qualified, Arg: at}); !slices.Contains(inst.Needs, need) {
			inst.Needs = append(inst.Needs, need)
		}
	}
	head := "(" + t.name + " " + strings.Join(arguments, " ") + ")"
	return "instance (" + strings.Join(context, ", ") + ") => " + c.name + " " + head, inst, true
}

// has says whether one of the modules has an instance of the same class and
// constructor.
func (p *program) has(inst api.Inst) bool {
	for _, all := range p.insts {
		if slices.ContainsFunc(all, func(other api.Inst) bool { return other.Class == inst.Class && other.Con == inst.Con }) {
			return true
		}
	}
	return false
}

// order is the modules in the order of chapter 4.
func (p *program) order() []string {
	var done []string
	for len(done) < len(p.texts) {
		for _, name := range slices.Sorted(maps.Keys(p.texts)) {
			waits := func(other string) bool { return !slices.Contains(done, other) }
			if !slices.Contains(done, name) && !slices.ContainsFunc(p.imports[name], waits) {
				done = append(done, name)
				break
			}
		}
	}
	return done
}

// want is what Insts must answer.
func (p *program) want() ([]api.Inst, api.Diag) {
	var all []api.Inst
	for _, name := range p.order() {
		for i, inst := range p.insts[name] {
			same := func(other api.Inst) bool { return inst.Class == other.Class && inst.Con == other.Con }
			if slices.ContainsFunc(all, same) {
				return nil, api.Diag{File: name, Line: p.lines[name][i], Col: 1, Number: api.ErrOverlap}
			}
			all = append(all, inst)
		}
	}
	return all, api.Diag{}
}

// P8.1: random programs, whose modules are handed in in any order.
func TestRandomPrograms(t *testing.T) {
	found, none := 0, 0
	for seed := range int64(2500) {
		p := newProgram(seed)
		texts := []string{}
		for _, name := range slices.Sorted(maps.Keys(p.texts)) {
			texts = append(texts, p.texts[name])
		}
		p.Shuffle(len(texts), func(i, j int) { texts[i], texts[j] = texts[j], texts[i] })
		want, wrong := p.want()
		got, d := classes.Insts(trees(t, texts...)...)
		if d != wrong || sayInsts(got) != sayInsts(want) {
			t.Fatalf("%s:\ngot  %s %+v\nwant %s %+v", strings.Join(texts, "\n"), sayInsts(got), d, sayInsts(want), wrong)
		}
		switch {
		case wrong.Number != api.OK:
			none++
		case len(want) > 3:
			found++
		}
	}
	t.Log(found, none)
	if found < 400 || none < 200 {
		t.Error("too few:", found, none)
	}
}
