package tests

import (
	"fmt"
	"math"
	"math/rand/v2"
	"slices"
	"strings"
	"testing"

	"loop.example/g01085/impl"
)

// noRels are numbers of relations that no template has.
var noRels = []int64{-1, -2, 6, 7, 1000, math.MaxInt64, math.MinInt64}

// formula returns the formula that a short text tells, such as "2 3 R0:02 =:12".
func formula(short string) impl.Formula {
	words := strings.Fields(short)
	f := impl.Formula{Free: int64(words[0][0] - '0'), Vars: int64(words[1][0] - '0')}
	for _, word := range words[2:] {
		name, digits, _ := strings.Cut(word, ":")
		a := impl.Atom{Rel: impl.EqualAtom}
		if name != "=" {
			a.Rel = int64(name[1] - '0')
		}
		for _, digit := range digits {
			a.Args = append(a.Args, int64(digit-'0'))
		}
		f.Atoms = append(f.Atoms, a)
	}
	return f
}

// short writes a formula down, such that formula tells it again.
func short(f impl.Formula) string {
	text := fmt.Sprint(f.Free, " ", f.Vars)
	for _, a := range f.Atoms {
		name := "="
		if a.Rel != impl.EqualAtom {
			name = fmt.Sprint("R", a.Rel)
		}
		text += " " + name + ":" + strings.Trim(strings.ReplaceAll(fmt.Sprint(a.Args), " ", ""), "[]")
	}
	return text
}

// mixed is a template of the size 3 with relations of all arities.
func mixed() impl.Template {
	return impl.Template{Size: 3, Rels: []impl.Rel{
		relWhere(3, 2, func(x []int64) bool { return (x[0]+1)%3 == x[1] }),
		relWhere(3, 1, func(x []int64) bool { return x[0] != 1 }),
		relWhere(3, 3, func(x []int64) bool { return (x[0]+x[1]+x[2])%3 == 1 }),
		relWhere(3, 4, func(x []int64) bool { return x[0] <= x[1] && x[2] < x[3] }),
	}}
}

// round is the template of the example of chapter 3.
func round() impl.Template { return graph(3, []int64{0, 1}, []int64{1, 2}, []int64{2, 0}) }

// randomFormula returns a formula for a template.
func randomFormula(source *rand.Rand, t impl.Template, free, vars int64, atoms int) impl.Formula {
	f := impl.Formula{Free: free, Vars: vars}
	for range atoms {
		a := impl.Atom{Rel: source.Int64N(int64(len(t.Rels))+1) - 1}
		arity := int64(2)
		if a.Rel != impl.EqualAtom {
			arity = t.Rels[a.Rel].Arity
		}
		for range arity {
			a.Args = append(a.Args, source.Int64N(vars))
		}
		f.Atoms = append(f.Atoms, a)
	}
	return f
}

// someFormulas returns a few formulas for a template.
func someFormulas(source *rand.Rand, t impl.Template, count int) []impl.Formula {
	var list []impl.Formula
	for range count {
		free := 1 + source.Int64N(4)
		list = append(list, randomFormula(source, t, free, free+source.Int64N(4), source.IntN(5)))
	}
	return list
}

// eachFormula runs a check for formulas of many templates.
func eachFormula(seed uint64, check func(t impl.Template, f impl.Formula)) {
	source := rand.New(rand.NewPCG(seed, 3))
	for _, x := range append(someTemplates(), mixed()) {
		for _, f := range someFormulas(source, x, 6) {
			check(x, f)
		}
	}
}

// roomyFormula returns the same formula in slices that have capacity left.
func roomyFormula(f impl.Formula) impl.Formula {
	atoms := make([]impl.Atom, 0, len(f.Atoms)+2)
	for _, a := range f.Atoms {
		atoms = append(atoms, impl.Atom{Rel: a.Rel, Args: roomyList(a.Args...)})
	}
	copy(atoms[len(atoms):cap(atoms)], []impl.Atom{{Rel: 9, Args: []int64{9}}, {Rel: 8}})
	return impl.Formula{Free: f.Free, Vars: f.Vars, Atoms: atoms}
}

// holdsFor tells by the definition whether all atoms of a formula hold.
func holdsFor(sets []map[tupleKey]bool, f impl.Formula, values []int64) bool {
	for _, a := range f.Atoms {
		args := at(values, a.Args)
		if a.Rel == impl.EqualAtom {
			if args[0] != args[1] {
				return false
			}
		} else if !sets[a.Rel][keyOf(args)] {
			return false
		}
	}
	return true
}

// witnessesBy returns the first values of all variables for each tuple for
// which a formula holds, by the definition.
func witnessesBy(t impl.Template, f impl.Formula) map[tupleKey][]int64 {
	var sets []map[tupleKey]bool
	for _, r := range t.Rels {
		sets = append(sets, setOf(r))
	}
	witnesses := map[tupleKey][]int64{}
	values := make([]int64, f.Vars)
	for place := 0; place >= 0; {
		key := keyOf(values[:f.Free])
		if witnesses[key] == nil && holdsFor(sets, f, values) {
			witnesses[key] = slices.Clone(values)
		}
		for place = len(values) - 1; place >= 0; place-- {
			values[place] = (values[place] + 1) % t.Size
			if values[place] > 0 {
				break
			}
		}
	}
	return witnesses
}

// valueBy returns the value of a formula, by the definition.
func valueBy(t impl.Template, f impl.Formula) impl.Rel {
	witnesses := witnessesBy(t, f)
	return relWhere(t.Size, f.Free, func(tuple []int64) bool { return witnesses[keyOf(tuple)] != nil })
}

// checkValue compares what is said of the value of a formula with the definition.
func checkValue(t *testing.T, x impl.Template, f impl.Formula) {
	t.Helper()
	witnesses := witnessesBy(x, f)
	wantCall(t, "ValidFormula", []any{true}, impl.ValidFormula, x, f)
	wantCall(t, "ValueOf", []any{valueBy(x, f), 0}, impl.ValueOf, roomyTemplate(x), roomyFormula(f))
	tuples := listsOf(x.Size, f.Free)
	for i, tuple := range tuples {
		if len(tuples) > 16 && i%7 > 0 {
			continue
		}
		witness := witnesses[keyOf(tuple)]
		wantCall(t, "HoldsAt", []any{witness != nil, 0}, impl.HoldsAt, roomyTemplate(x), roomyFormula(f), roomyList(tuple...))
		if witness == nil {
			wantCode(t, "WitnessAt", impl.ErrNotFound, impl.WitnessAt, x, f, tuple)
		} else {
			wantCall(t, "WitnessAt", []any{witness, 0}, impl.WitnessAt, roomyTemplate(x), roomyFormula(f), roomyList(tuple...))
		}
	}
}

func TestExampleOfChapter3(t *testing.T) {
	x := round()
	f := impl.Formula{Free: 2, Vars: 3, Atoms: []impl.Atom{{Rel: 0, Args: []int64{0, 2}}, {Rel: 0, Args: []int64{2, 1}}}}
	wantCall(t, "ReadFormula", []any{f, 0}, impl.ReadFormula, "formula 2 3 R0:02 R0:21")
	wantCall(t, "ValueOf", []any{impl.Rel{Arity: 2, Tuples: [][]int64{{0, 2}, {1, 0}, {2, 1}}}, 0}, impl.ValueOf, x, f)
	wantCall(t, "WitnessAt", []any{[]int64{0, 2, 1}, 0}, impl.WitnessAt, x, f, []int64{0, 2})
	chain, _ := impl.ReadFormula("formula 2 3 R0:01 =:12")
	simple, code := impl.SimplifyFormula(x, chain)
	same(t, "SimplifyFormula", []any{impl.FormulaText(simple), code}, []any{"formula 2 2 R0:01", 0})
}

func TestValuesByDefinition(t *testing.T) {
	eachFormula(1, func(x impl.Template, f impl.Formula) { checkValue(t, x, f) })
}

func TestValuesOfNamedFormulas(t *testing.T) {
	for _, text := range []string{
		// without atoms, with and without bound variables
		"1 1", "1 2", "1 8", "2 2", "3 3", "4 4", "4 8",
		// bound variables in no atom
		"1 3 R0:00", "1 3 R0:02", "2 5 R0:04 R0:41", "1 4 R1:3",
		// equality of two free variables, a free and a bound one, two bound ones, one twice
		"2 2 =:01", "2 2 =:10", "2 2 =:00", "2 2 =:01 =:10", "1 2 =:01", "1 2 =:10 R1:1", "1 2 =:11 R0:01", "2 4 =:23 R0:02 R0:31", "2 4 =:32 R0:02 R0:31",
		"3 3 =:01 =:12", "2 2 R0:01 =:01", "4 4 =:01 =:23", "4 4 =:03 =:12 R0:01",
		// atoms that come twice, and Args that come several times
		"2 2 R0:01 R0:01", "2 3 R0:02 R0:21 R0:02", "1 1 R0:00", "1 1 R2:000", "2 2 R2:011", "2 2 R3:0101", "1 1 R3:0000", "2 3 R3:2212 R2:002",
		// atoms of free variables alone that do not hold, ahead of bound ones
		"2 3 R0:00", "2 4 R0:01 R0:10", "1 3 R1:0 R0:12",
		// the last values fit
		"1 3 R0:12 R0:20 R0:01", "2 4 R3:0123",
	} {
		checkValue(t, mixed(), formula(text))
	}
	full := relWhere(3, 2, func([]int64) bool { return true })
	equal := relWhere(3, 2, func(x []int64) bool { return x[0] == x[1] })
	wantCall(t, "ValueOf no atoms", []any{full, 0}, impl.ValueOf, mixed(), formula("2 2"))
	wantCall(t, "ValueOf no atoms", []any{full, 0}, impl.ValueOf, impl.Template{Size: 3}, formula("2 8"))
	wantCall(t, "ValueOf an equality", []any{equal, 0}, impl.ValueOf, impl.Template{Size: 3}, formula("2 2 =:10"))
	wantCall(t, "ValueOf a chain", []any{equal, 0}, impl.ValueOf, impl.Template{Size: 3}, formula("2 4 =:13 =:32 =:20"))
	wantCall(t, "ValueOf nothing", []any{"{2 []}", 0}, impl.ValueOf, impl.Template{Size: 3, Rels: []impl.Rel{{Arity: 1}}}, formula("2 3 R0:2"))
	wantCall(t, "WitnessAt no atoms", []any{[]int64{2, 1, 0, 0, 0}, 0}, impl.WitnessAt, mixed(), formula("2 5"), []int64{2, 1})
	wantCall(t, "WitnessAt", []any{[]int64{1, 2, 0, 2}, 0}, impl.WitnessAt, mixed(), formula("1 4 R0:01 R0:12 =:31"), []int64{1})
}

// largest returns a template of the size 4 with six relations of the arity 4.
func largest() impl.Template {
	t := impl.Template{Size: 4}
	source := rand.New(rand.NewPCG(12, 12))
	for i := range 6 {
		t.Rels = append(t.Rels, relWhere(4, 4, func([]int64) bool { return source.IntN(100) < 60+5*i }))
	}
	return t
}

func TestValuesOfLargeFormulas(t *testing.T) {
	source := rand.New(rand.NewPCG(13, 13))
	x := largest()
	for free := int64(1); free <= 4; free++ {
		for _, atoms := range []int{3, 8, 16} {
			checkValue(t, x, randomFormula(source, x, free, 8, atoms))
		}
	}
	// no values fit, which is seen at the last variable alone
	none := impl.Template{Size: 4, Rels: []impl.Rel{{Arity: 1}}}
	wantCall(t, "ValueOf", []any{"{4 []}", 0}, impl.ValueOf, none, formula("4 8 R0:7"))
	wantCall(t, "ValueOf", []any{"{1 []}", 0}, impl.ValueOf, none, formula("1 8 R0:7"))
	last := impl.Template{Size: 4, Rels: []impl.Rel{{Arity: 1, Tuples: [][]int64{{3}}}}}
	wantCall(t, "WitnessAt", []any{[]int64{1, 3, 3, 3, 3, 3, 3, 3}, 0}, impl.WitnessAt, last, formula("1 8 R0:7 R0:6 R0:5 R0:4 R0:3 R0:2 R0:1"), []int64{1})
}

func TestTuplesOfOtherArities(t *testing.T) {
	x, f := mixed(), formula("2 3 R0:02 R0:21")
	tuples := [][]int64{nil, {}, {0}, {0, 1, 2}, {0, 3}, {3, 0}, {0, -1}, {-1, 0}, {0, 2, 1, 0}, {3, 3, 3}}
	for _, value := range farAway {
		tuples = append(tuples, []int64{0, value}, []int64{value})
	}
	for _, tuple := range tuples {
		wantCode(t, "HoldsAt", impl.ErrRange, impl.HoldsAt, x, f, tuple)
		wantCode(t, "WitnessAt", impl.ErrRange, impl.WitnessAt, x, f, tuple)
	}
	wantCode(t, "WitnessAt", impl.ErrNotFound, impl.WitnessAt, x, f, []int64{0, 0})
	wantCall(t, "HoldsAt", []any{false, 0}, impl.HoldsAt, x, f, []int64{0, 0})
}

// goodFormulas are valid for the template mixed.
func goodFormulas() []impl.Formula {
	var list []impl.Formula
	for _, text := range []string{
		"1 1", "1 8", "4 4", "4 8", "2 2 =:01", "2 3 =:22", "2 3 R0:02 R0:21", "1 1 R1:0", "3 3 R2:012", "4 4 R3:0123", "1 8 R3:7777", "1 8 R0:70",
		"2 8" + strings.Repeat(" R0:01", 16), "1 2" + strings.Repeat(" =:11 R1:0", 8),
	} {
		list = append(list, formula(text))
	}
	return list
}

// badFormulas are not valid for the template mixed, whose relations have the
// arities 2, 1, 3 and 4.
func badFormulas() []impl.Formula {
	list := []impl.Formula{{}, {Vars: 1}, {Free: 1}, {Free: 5, Vars: 5}, {Free: 5, Vars: 8}, {Free: 2, Vars: 1}, {Free: 4, Vars: 3}, {Free: 1, Vars: 9}, {Free: 4, Vars: 9}, {Free: 9, Vars: 9}, {Free: -1, Vars: 3}, {Free: 1, Vars: -1}}
	for _, number := range farAway {
		list = append(list, impl.Formula{Free: number, Vars: 3}, impl.Formula{Free: 1, Vars: number}, impl.Formula{Free: number, Vars: number})
		list = append(list, impl.Formula{Free: 1, Vars: 2, Atoms: []impl.Atom{{Rel: 0, Args: []int64{0, number}}}})
		list = append(list, impl.Formula{Free: 1, Vars: 2, Atoms: []impl.Atom{{Rel: -1, Args: []int64{number, 0}}}})
	}
	for _, rel := range append([]int64{4, 5}, noRels...) {
		if rel != impl.EqualAtom {
			list = append(list, impl.Formula{Free: 1, Vars: 2, Atoms: []impl.Atom{{Rel: rel, Args: []int64{0, 1}}}}, impl.Formula{Free: 1, Vars: 2, Atoms: []impl.Atom{{Rel: 1, Args: []int64{0}}, {Rel: rel, Args: []int64{0}}}})
		}
	}
	for _, text := range []string{
		"1 2 =:", "1 2 =:0", "1 2 =:011", "1 2 R0:", "1 2 R0:0", "1 2 R0:010", "1 2 R1:", "1 2 R1:00", "1 2 R2:00", "1 2 R2:0000", "1 4 R3:012", "1 5 R3:01234",
		"1 1 =:01", "1 1 =:10", "1 2 R0:02", "1 2 R0:20", "2 2 R1:2", "3 3 R2:013", "4 7 R3:0127", "4 8 R0:01 R0:08", "4 8 R1:9",
		"2 2" + strings.Repeat(" R0:01", 17), "1 1" + strings.Repeat(" =:00", 17), "1 1" + strings.Repeat(" R1:0", 40), "2 3 R0:01 R0:12 R0:13",
	} {
		list = append(list, formula(text))
	}
	return list
}

func TestValidFormula(t *testing.T) {
	for _, f := range goodFormulas() {
		wantCall(t, "ValidFormula", []any{true}, impl.ValidFormula, roomyTemplate(mixed()), roomyFormula(f))
	}
	for _, f := range badFormulas() {
		wantCall(t, "ValidFormula", []any{false}, impl.ValidFormula, mixed(), f)
	}
	for _, x := range badTemplates() {
		wantCall(t, "ValidFormula", []any{false}, impl.ValidFormula, x, formula("1 1"))
		wantCall(t, "ValidFormula", []any{false}, impl.ValidFormula, x, formula("2 2 =:01"))
	}
	for i := range 6 {
		f := impl.Formula{Free: 4, Vars: 8, Atoms: []impl.Atom{{Rel: int64(i), Args: []int64{0, 7, 4, 3}}}}
		wantCall(t, "ValidFormula", []any{true}, impl.ValidFormula, largest(), f)
		f.Atoms[0].Rel++
		fewer := impl.Template{Size: 4, Rels: largest().Rels[:i+1]}
		wantCall(t, "ValidFormula", []any{false}, impl.ValidFormula, fewer, f)
	}
	// validity hangs on the template
	wantCall(t, "ValidFormula", []any{false}, impl.ValidFormula, impl.Template{Size: 3}, formula("2 2 R0:01"))
	wantCall(t, "ValidFormula", []any{false}, impl.ValidFormula, round(), formula("2 2 R1:0"))
	wantCall(t, "ValidFormula", []any{true}, impl.ValidFormula, impl.Template{Size: 1}, formula("2 2 =:01"))
}

func TestSameFormula(t *testing.T) {
	list := append(goodFormulas(), badFormulas()...)
	for _, f := range list {
		for _, g := range list {
			wantCall(t, "SameFormula", []any{fmt.Sprint(f) == fmt.Sprint(g)}, impl.SameFormula, f, g)
		}
		wantCall(t, "SameFormula", []any{true}, impl.SameFormula, roomyFormula(f), f)
	}
	f := formula("2 3 R0:02 R0:21")
	for _, other := range []string{"1 3 R0:02 R0:21", "2 4 R0:02 R0:21", "2 3 R0:21 R0:02", "2 3 R0:02", "2 3 R1:02 R0:21", "2 3 =:02 R0:21", "2 3 R0:02 R0:12", "2 3 R0:02 R0:21 R0:21"} {
		wantCall(t, "SameFormula", []any{false}, impl.SameFormula, f, formula(other))
	}
	wantCall(t, "SameFormula", []any{true}, impl.SameFormula, impl.Formula{Atoms: []impl.Atom{{Args: []int64{}}}}, impl.Formula{Atoms: []impl.Atom{{}}})
	wantCall(t, "SameFormula", []any{true}, impl.SameFormula, impl.Formula{Atoms: []impl.Atom{}}, impl.Formula{})
	wantCall(t, "SameFormula", []any{false}, impl.SameFormula, impl.Formula{Atoms: []impl.Atom{{}}}, impl.Formula{})
}

// invalidFormulaCalls calls all functions with a formula or a template that is
// not valid, and with arguments that would have other errors, too.
func invalidFormulaCalls(t *testing.T, x impl.Template, f, good impl.Formula) {
	t.Helper()
	wantCode(t, "ValueOf", impl.ErrInvalid, impl.ValueOf, x, f)
	for _, list := range [][]int64{nil, {0}, {0, 1}, {9, 9, 9}} {
		wantCode(t, "HoldsAt", impl.ErrInvalid, impl.HoldsAt, x, f, list)
		wantCode(t, "WitnessAt", impl.ErrInvalid, impl.WitnessAt, x, f, list)
		for _, free := range []int64{0, 1, 2, 5} {
			wantCode(t, "PlaceFormula", impl.ErrInvalid, impl.PlaceFormula, x, f, free, list)
		}
	}
	for _, number := range []int64{-1, 0, 1, 9} {
		wantCode(t, "HideVariable", impl.ErrInvalid, impl.HideVariable, x, f, number)
		wantCode(t, "ReplaceRel", impl.ErrInvalid, impl.ReplaceRel, x, f, number, good)
		wantCode(t, "ReplaceRel", impl.ErrInvalid, impl.ReplaceRel, x, good, number, f)
	}
	for _, pair := range [][2]impl.Formula{{f, good}, {good, f}, {f, f}} {
		wantCode(t, "ConjoinFormulas", impl.ErrInvalid, impl.ConjoinFormulas, x, pair[0], pair[1])
		wantCode(t, "AreEquivalent", impl.ErrInvalid, impl.AreEquivalent, x, pair[0], pair[1])
		wantCode(t, "FirstApart", impl.ErrInvalid, impl.FirstApart, x, pair[0], pair[1])
	}
	wantCode(t, "SimplifyFormula", impl.ErrInvalid, impl.SimplifyFormula, x, f)
	wantCode(t, "ExtendTemplate", impl.ErrInvalid, impl.ExtendTemplate, x, f)
}

func TestInvalidFormulas(t *testing.T) {
	for _, bad := range badFormulas() {
		invalidFormulaCalls(t, mixed(), bad, formula("2 8 R0:01"))
	}
	for _, bad := range badTemplates() {
		invalidFormulaCalls(t, bad, formula("1 1"), formula("2 2 =:01"))
		for _, rel := range []int64{-1, 0, 1, 6} {
			wantCode(t, "AtomFormula", impl.ErrInvalid, impl.AtomFormula, bad, rel)
		}
	}
	six := largest()
	wantCode(t, "ExtendTemplate", impl.ErrInvalid, impl.ExtendTemplate, six, formula("1 1 R6:0000"))
	wantCode(t, "ExtendTemplate", impl.ErrInvalid, impl.ExtendTemplate, six, formula("5 5"))
}

func TestLargeArgumentsOfFormulas(t *testing.T) {
	long := make([]int64, 900000)
	many := impl.Formula{Free: 1, Vars: 1, Atoms: slices.Repeat([]impl.Atom{{Rel: 1, Args: []int64{0}}}, 300000)}
	wide := impl.Formula{Free: 1, Vars: 1, Atoms: []impl.Atom{{Rel: 1, Args: long}}}
	for _, f := range []impl.Formula{many, wide} {
		same(t, "ValidFormula", impl.ValidFormula(mixed(), f), false)
		same(t, "FormulaText", impl.FormulaText(f), "")
		same(t, "SameFormula", impl.SameFormula(f, f), true)
		_, code := impl.SimplifyFormula(mixed(), f)
		same(t, "SimplifyFormula", code, impl.ErrInvalid)
	}
	f := formula("2 3 R0:02 R0:21")
	_, code := impl.HoldsAt(mixed(), f, long)
	same(t, "HoldsAt", code, impl.ErrRange)
	_, code = impl.PlaceFormula(mixed(), f, 2, long)
	same(t, "PlaceFormula", code, impl.ErrRange)
}
