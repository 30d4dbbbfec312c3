package tests

import (
	"fmt"
	"math"
	"math/rand/v2"
	"slices"
	"strings"
	"testing"

	"loop.example/g01085/impl"
)

// made is a call that makes a formula: the one that it returns, or its code.
type made struct {
	want string
	code int64
}

// wantMade calls a function that makes a formula, and checks which.
func wantMade(t *testing.T, name string, want made, f any, args ...any) impl.Formula {
	t.Helper()
	results := call(t, f, args...)
	got := results[0].(impl.Formula)
	if code := results[1].(int64); code != want.code || code == impl.OK && short(got) != want.want {
		t.Errorf("%s of %v: got %s %d, want %s %d", name, args, short(got), code, want.want, want.code)
	}
	return got
}

// fine is the result of a call that returns a formula.
func fine(want string) made { return made{want, impl.OK} }

// wrong is the result of a call that returns an error.
func wrong(code int64) made { return made{"", code} }

// wantValue checks the value of a formula, found by the definition.
func wantValue(t *testing.T, name string, want impl.Rel, x impl.Template, f impl.Formula) {
	t.Helper()
	if !impl.ValidFormula(x, f) {
		t.Fatalf("%s: %s is not valid", name, short(f))
	}
	same(t, fmt.Sprint(name, " ", x, " ", short(f)), valueBy(x, f), want)
}

// repeated returns a text so many times.
func repeated(text string, count int) string { return strings.Repeat(text, count) }

func TestAtomFormula(t *testing.T) {
	for rel, want := range []string{"2 2 R0:01", "1 1 R1:0", "3 3 R2:012", "4 4 R3:0123"} {
		f := wantMade(t, "AtomFormula", fine(want), impl.AtomFormula, roomyTemplate(mixed()), int64(rel))
		wantValue(t, "AtomFormula", mixed().Rels[rel], mixed(), f)
	}
	wantMade(t, "AtomFormula", fine("4 4 R5:0123"), impl.AtomFormula, largest(), int64(5))
	for _, rel := range append([]int64{4, 5}, noRels...) {
		wantMade(t, "AtomFormula", wrong(impl.ErrRange), impl.AtomFormula, mixed(), rel)
	}
	for _, rel := range append([]int64{0}, noRels...) {
		wantMade(t, "AtomFormula", wrong(impl.ErrRange), impl.AtomFormula, impl.Template{Size: 2}, rel)
	}
}

func TestConjoinFormulas(t *testing.T) {
	for _, c := range []struct{ f, g, want string }{
		{"1 1", "1 1", "1 1"},
		{"2 2 R0:01", "2 2 R0:10", "2 2 R0:01 R0:10"},
		{"2 2 R0:01", "2 2 R0:01", "2 2 R0:01 R0:01"},
		// several bound variables on both sides
		{"2 4 R0:02 R0:23 R0:31", "2 5 R2:234 R0:10", "2 7 R0:02 R0:23 R0:31 R2:456 R0:10"},
		{"1 3 R0:12", "1 4 R3:0321", "1 6 R0:12 R3:0543"},
		{"2 2 R0:01", "2 4 =:32 R0:30", "2 4 R0:01 =:32 R0:30"},
		{"2 4 =:32 R0:30", "2 2 R0:01", "2 4 =:32 R0:30 R0:01"},
		// variables in no atom have numbers as well
		{"1 3", "1 2 R0:01", "1 4 R0:03"},
		{"3 4", "3 5", "3 6"},
		{"4 6 R3:0145", "4 6 R3:4501", "4 8 R3:0145 R3:6701"},
	} {
		wantMade(t, "ConjoinFormulas", fine(c.want), impl.ConjoinFormulas, roomyTemplate(mixed()), roomyFormula(formula(c.f)), roomyFormula(formula(c.g)))
	}
	f := formula("2 4 R0:02 =:23")
	wantMade(t, "ConjoinFormulas with itself", fine("2 6 R0:02 =:23 R0:04 =:45"), impl.ConjoinFormulas, mixed(), f, f)
}

func TestLimitsOfConjoining(t *testing.T) {
	atoms := func(count int) string { return repeated(" R1:0", count) }
	for _, c := range []struct {
		f, g string
		want made
	}{
		{"1 8", "1 1", fine("1 8")}, {"1 1", "1 8", fine("1 8")}, {"1 8", "1 2", wrong(impl.ErrLimit)}, {"1 2", "1 8", wrong(impl.ErrLimit)},
		{"4 6", "4 6", fine("4 8")}, {"4 6", "4 7", wrong(impl.ErrLimit)}, {"4 7", "4 6", wrong(impl.ErrLimit)}, {"4 8", "4 8", wrong(impl.ErrLimit)},
		{"1 1" + atoms(8), "1 1" + atoms(8), fine("1 1" + atoms(16))},
		{"1 1" + atoms(16), "1 1", fine("1 1" + atoms(16))}, {"1 1", "1 1" + atoms(16), fine("1 1" + atoms(16))},
		{"1 1" + atoms(16), "1 1" + atoms(1), wrong(impl.ErrLimit)}, {"1 1" + atoms(1), "1 1" + atoms(16), wrong(impl.ErrLimit)},
		{"1 1" + atoms(8), "1 1" + atoms(9), wrong(impl.ErrLimit)}, {"1 8" + atoms(16), "1 8" + atoms(16), wrong(impl.ErrLimit)},
		{"1 4" + atoms(8), "1 5" + atoms(8), fine("1 8" + atoms(16))},
		// the free variables are compared first
		{"1 8" + atoms(16), "2 8" + atoms(16), wrong(impl.ErrState)}, {"1 1", "2 2", wrong(impl.ErrState)}, {"4 4", "3 3", wrong(impl.ErrState)}, {"1 2", "2 2", wrong(impl.ErrState)},
	} {
		wantMade(t, "ConjoinFormulas", c.want, impl.ConjoinFormulas, mixed(), formula(c.f), formula(c.g))
	}
}

func TestValuesOfConjunctions(t *testing.T) {
	source := rand.New(rand.NewPCG(21, 3))
	for _, x := range append(someTemplates(), mixed()) {
		free := 1 + source.Int64N(4)
		f := randomFormula(source, x, free, free+source.Int64N(3), source.IntN(4))
		g := randomFormula(source, x, free, free+source.Int64N(3), source.IntN(4))
		both, code := impl.ConjoinFormulas(x, f, g)
		meet, _ := impl.MeetRels(x.Size, valueBy(x, f), valueBy(x, g))
		same(t, "ConjoinFormulas", code, impl.OK)
		wantValue(t, "conjunction", meet, x, both)
	}
}

func TestPlaceFormula(t *testing.T) {
	for _, c := range []struct {
		f      string
		free   int64
		places []int64
		want   made
	}{
		{"1 1 R1:0", 1, []int64{0}, fine("1 1 R1:0")},
		{"1 1 R1:0", 4, []int64{3}, fine("4 4 R1:3")},
		{"2 2 R0:01", 2, []int64{1, 0}, fine("2 2 R0:10")},
		// places that come several times
		{"2 2 R0:01", 1, []int64{0, 0}, fine("1 1 R0:00")},
		{"4 6 R3:0123 R3:3245", 2, []int64{1, 0, 1, 1}, fine("2 4 R3:1011 R3:1123")},
		// the bound variables follow, in order, wherever the free ones go
		{"2 4 R0:02 R0:23 R0:31", 4, []int64{3, 1}, fine("4 6 R0:34 R0:45 R0:51")},
		{"3 5 R2:430 R2:012", 1, []int64{0, 0, 0}, fine("1 3 R2:210 R2:000")},
		{"1 3", 2, []int64{1}, fine("2 4")},
		{"2 3 =:02 =:21 =:01", 3, []int64{2, 2}, fine("3 4 =:23 =:32 =:22")},
		// exactly MaxVars variables and one more
		{"1 8 R0:07", 1, []int64{0}, fine("1 8 R0:07")}, {"1 8", 2, []int64{0}, wrong(impl.ErrLimit)}, {"1 8", 4, []int64{3}, wrong(impl.ErrLimit)},
		{"2 6 R0:15", 4, []int64{0, 2}, fine("4 8 R0:27")}, {"2 7", 4, []int64{0, 2}, wrong(impl.ErrLimit)}, {"4 8 R0:37", 1, []int64{0, 0, 0, 0}, fine("1 5 R0:04")},
		{"1 1" + repeated(" R1:0", 16), 4, []int64{2}, fine("4 4" + repeated(" R1:2", 16))},
		// the numbers are looked at before the limit
		{"1 8", 0, []int64{0}, wrong(impl.ErrRange)}, {"1 8", 5, []int64{0}, wrong(impl.ErrRange)}, {"1 8", 4, []int64{4}, wrong(impl.ErrRange)}, {"1 8", 4, nil, wrong(impl.ErrRange)},
		{"2 2", 2, []int64{0}, wrong(impl.ErrRange)}, {"2 2", 2, []int64{0, 1, 0}, wrong(impl.ErrRange)}, {"2 2", 2, []int64{0, 2}, wrong(impl.ErrRange)}, {"2 2", 1, []int64{0, 1}, wrong(impl.ErrRange)}, {"2 3", 3, []int64{}, wrong(impl.ErrRange)},
		// as many places as there are variables, instead of free ones
		{"1 2 R0:01", 2, []int64{0, 1}, wrong(impl.ErrRange)},
	} {
		wantMade(t, "PlaceFormula", c.want, impl.PlaceFormula, roomyTemplate(mixed()), roomyFormula(formula(c.f)), c.free, roomyList(c.places...))
	}
	for _, number := range farAway {
		wantMade(t, "PlaceFormula", wrong(impl.ErrRange), impl.PlaceFormula, mixed(), formula("1 1"), number, []int64{0})
		wantMade(t, "PlaceFormula", wrong(impl.ErrRange), impl.PlaceFormula, mixed(), formula("2 2"), int64(2), []int64{0, number})
	}
}

func TestValuesOfPlacedFormulas(t *testing.T) {
	source := rand.New(rand.NewPCG(22, 3))
	eachFormula(2, func(x impl.Template, f impl.Formula) {
		free := 1 + source.Int64N(4)
		var places []int64
		for range f.Free {
			places = append(places, source.Int64N(free))
		}
		g, code := impl.PlaceFormula(x, f, free, places)
		if f.Vars-f.Free+free > 8 {
			same(t, "PlaceFormula", code, impl.ErrLimit)
			return
		}
		placed, _ := impl.PlaceRel(x.Size, valueBy(x, f), free, places)
		wantValue(t, "placed formula", placed, x, g)
	})
}

func TestHideVariable(t *testing.T) {
	for _, c := range []struct {
		f        string
		variable int64
		want     made
	}{
		{"2 2 R0:01", 0, fine("1 2 R0:10")}, {"2 2 R0:01", 1, fine("1 2 R0:01")},
		// the hidden one comes behind the bound ones, all behind it go down
		{"3 5 R2:012 R0:34", 0, fine("2 5 R2:401 R0:23")}, {"3 5 R2:012 R0:34", 1, fine("2 5 R2:041 R0:23")}, {"3 5 R2:012 R0:34", 2, fine("2 5 R2:014 R0:23")},
		{"4 8 R3:0123 R3:4567", 0, fine("3 8 R3:7012 R3:3456")}, {"4 8 R3:0123 R3:4567", 3, fine("3 8 R3:0127 R3:3456")},
		{"2 3", 0, fine("1 3")}, {"2 2 =:01 =:00", 0, fine("1 2 =:10 =:11")}, {"2 3 R0:02 R0:02", 0, fine("1 3 R0:21 R0:21")},
		{"2 8" + repeated(" R0:17", 16), 1, fine("1 8" + repeated(" R0:76", 16))},
		{"1 1", 0, wrong(impl.ErrState)}, {"1 8", 0, wrong(impl.ErrState)},
		// whether there is such a variable is looked at first
		{"1 8", 1, wrong(impl.ErrRange)}, {"1 1", -1, wrong(impl.ErrRange)}, {"2 3", 2, wrong(impl.ErrRange)}, {"2 3", 3, wrong(impl.ErrRange)}, {"4 4", 4, wrong(impl.ErrRange)},
	} {
		wantMade(t, "HideVariable", c.want, impl.HideVariable, roomyTemplate(mixed()), roomyFormula(formula(c.f)), c.variable)
	}
	for _, number := range farAway {
		wantMade(t, "HideVariable", wrong(impl.ErrRange), impl.HideVariable, mixed(), formula("4 4"), number)
		wantMade(t, "HideVariable", wrong(impl.ErrRange), impl.HideVariable, mixed(), formula("1 1"), number)
	}
}

func TestValuesOfHiddenVariables(t *testing.T) {
	eachFormula(3, func(x impl.Template, f impl.Formula) {
		for hidden := range f.Free {
			if f.Free == 1 {
				continue
			}
			g, _ := impl.HideVariable(x, f, hidden)
			var places []int64
			for place := range f.Free {
				if place != hidden {
					places = append(places, place)
				}
			}
			projected, _ := impl.ProjectRel(x.Size, valueBy(x, f), places)
			wantValue(t, "hidden variable", projected, x, g)
		}
	})
}

func TestReplaceRel(t *testing.T) {
	for _, c := range []struct {
		f    string
		rel  int64
		g    string
		want made
	}{
		{"2 2 R0:01", 0, "2 3 R0:02 R0:21", fine("2 3 R0:02 R0:21")},
		{"2 2 R0:10", 0, "2 3 R0:02 R0:21", fine("2 3 R0:12 R0:20")},
		{"1 2 R0:11", 0, "2 3 R0:02 R0:21", fine("1 3 R0:12 R0:21")},
		// atoms of the relation that come several times: each has bound variables of its own
		{"2 3 R0:02 R0:21", 0, "2 4 R0:02 R2:231", fine("2 7 R0:03 R2:342 R0:25 R2:561")},
		{"2 2 R0:01 R0:01 R1:0 R0:01", 0, "2 3 R0:02", fine("2 5 R0:02 R0:03 R1:0 R0:04")},
		// several bound variables on both sides, other atoms stay where they are
		{"1 3 R1:1 R0:12 =:02 R0:20 R2:012", 0, "2 4 =:03 R1:2 R0:13", fine("1 7 R1:1 =:14 R1:3 R0:24 =:02 =:26 R1:5 R0:06 R2:012")},
		{"2 5 R3:4321 R1:0", 3, "4 6 R3:5432 R0:01", fine("2 7 R3:6512 R0:43 R1:0")},
		// Args that come several times, also in what replaces
		{"1 1 R2:000", 2, "3 4 R2:331 R2:012", fine("1 2 R2:110 R2:000")},
		{"3 4 R2:212 R2:333", 2, "3 3 R2:110", fine("3 4 R2:112 R2:333")},
		// what replaces is not replaced again, and nothing may say anything
		{"1 1 R1:0", 1, "1 2 R1:1 R1:0", fine("1 2 R1:1 R1:0")},
		{"2 3 R0:02 R1:1 R0:21", 0, "2 2", fine("2 3 R1:1")},
		{"2 3 R0:02 R1:1 R0:21", 0, "2 3", fine("2 5 R1:1")},
		// no atom of the relation
		{"2 4 R0:03 =:12", 1, "1 8 R1:7", fine("2 4 R0:03 =:12")}, {"1 1", 3, "4 8 R0:01", fine("1 1")}, {"1 8" + repeated(" R1:7", 16), 0, "2 8" + repeated(" R0:01", 16), fine("1 8" + repeated(" R1:7", 16))},
		{"2 2 =:01", 0, "2 2 R0:10", fine("2 2 =:01")},
	} {
		wantMade(t, "ReplaceRel", c.want, impl.ReplaceRel, roomyTemplate(mixed()), roomyFormula(formula(c.f)), c.rel, roomyFormula(formula(c.g)))
	}
	f := formula("2 3 R0:02 R0:21")
	wantMade(t, "ReplaceRel by itself", fine("2 5 R0:03 R0:32 R0:24 R0:41"), impl.ReplaceRel, mixed(), f, int64(0), f)
}

func TestErrorsOfReplacing(t *testing.T) {
	for _, c := range []struct {
		f    string
		rel  int64
		g    string
		want made
	}{
		// exactly MaxVars variables and one more
		{"1 2 R1:0 R1:1", 1, "1 4 R0:13", fine("1 8 R0:24 R0:57")}, {"1 3 R1:0 R1:1", 1, "1 4 R0:13", wrong(impl.ErrLimit)}, {"1 2 R1:0 R1:1 R1:0", 1, "1 4 R0:13", wrong(impl.ErrLimit)},
		{"1 1 R1:0", 1, "1 8 R1:7", fine("1 8 R1:7")}, {"1 2 R1:0", 1, "1 8 R1:7", wrong(impl.ErrLimit)}, {"1 8 R1:0", 1, "1 1 R1:0", fine("1 8 R1:0")}, {"1 8 R1:0", 1, "1 2 R1:0", wrong(impl.ErrLimit)},
		{"4 6 R3:0123 R0:45 R3:2345", 3, "4 5", fine("4 8 R0:45")},
		// exactly MaxAtoms atoms and one more
		{"1 1" + repeated(" R1:0", 8), 1, "1 1 =:00 R1:0", fine("1 1" + repeated(" =:00 R1:0", 8))}, {"1 1" + repeated(" R1:0", 8) + " =:00", 1, "1 1 =:00 R1:0", wrong(impl.ErrLimit)},
		{"1 1 =:00" + repeated(" R1:0", 8), 1, "1 1 =:00 R1:0", wrong(impl.ErrLimit)}, {"1 1 =:00" + repeated(" R1:0", 5), 1, "1 1 =:00 R1:0 R0:00", fine("1 1 =:00" + repeated(" =:00 R1:0 R0:00", 5))},
		{"1 1 R1:0", 1, "1 1" + repeated(" R1:0", 16), fine("1 1" + repeated(" R1:0", 16))}, {"1 1 R1:0 R1:0", 1, "1 1" + repeated(" R1:0", 16), wrong(impl.ErrLimit)},
		{"1 1 R1:0 =:00", 1, "1 1" + repeated(" R1:0", 16), wrong(impl.ErrLimit)}, {"1 1" + repeated(" R1:0", 16), 1, "1 1 R1:0", fine("1 1" + repeated(" R1:0", 16))},
		{"1 1" + repeated(" R1:0", 16), 1, "1 1", fine("1 1")}, {"1 1" + repeated(" R1:0", 16), 1, "1 1 R1:0 R1:0", wrong(impl.ErrLimit)},
		// as many free variables as the arity tells
		{"2 2 R0:01", 0, "1 2 R0:01", wrong(impl.ErrState)}, {"2 2 R0:01", 0, "3 3 R0:01", wrong(impl.ErrState)}, {"2 2 R0:01", 1, "2 2 R0:01", wrong(impl.ErrState)}, {"1 1", 3, "3 8", wrong(impl.ErrState)},
		{"1 8" + repeated(" R1:0", 16), 1, "2 8" + repeated(" R1:0", 16), wrong(impl.ErrState)}, {"4 8", 2, "4 8", wrong(impl.ErrState)},
		// whether there is such a relation is looked at first; EqualAtom is none
		{"2 2 =:01", -1, "2 2 R0:01", wrong(impl.ErrRange)}, {"2 2 R0:01", 4, "1 1", wrong(impl.ErrRange)}, {"1 8" + repeated(" R1:0", 16), 5, "1 8" + repeated(" R1:0", 16), wrong(impl.ErrRange)},
	} {
		wantMade(t, "ReplaceRel", c.want, impl.ReplaceRel, mixed(), formula(c.f), c.rel, formula(c.g))
	}
	for _, rel := range append([]int64{4, 5}, noRels...) {
		wantMade(t, "ReplaceRel", wrong(impl.ErrRange), impl.ReplaceRel, mixed(), formula("2 2 R0:01"), rel, formula("2 2 R0:01"))
	}
	wantMade(t, "ReplaceRel", wrong(impl.ErrRange), impl.ReplaceRel, impl.Template{Size: 2}, formula("2 2 =:01"), int64(0), formula("2 2 =:01"))
	wantMade(t, "ReplaceRel", fine("4 4 R4:3210"), impl.ReplaceRel, largest(), formula("4 4 R5:3210"), int64(5), formula("4 4 R4:0123"))
}

func TestValuesOfReplacedRelations(t *testing.T) {
	source := rand.New(rand.NewPCG(23, 3))
	for _, x := range append(someTemplates(), mixed()) {
		if len(x.Rels) == 6 {
			continue
		}
		for _, g := range someFormulas(source, x, 8) {
			if g.Vars > g.Free+1 || len(g.Atoms) > 3 {
				continue
			}
			rel := int64(len(x.Rels))
			wider := impl.Template{Size: x.Size, Rels: append(slices.Clone(x.Rels), valueBy(x, g))}
			free := 1 + source.Int64N(4)
			f := randomFormula(source, wider, free, free+source.Int64N(2), source.IntN(5))
			again, code := impl.ReplaceRel(wider, f, rel, g)
			if code == impl.ErrLimit {
				continue
			}
			same(t, "ReplaceRel", code, impl.OK)
			wantValue(t, "replaced relation", valueBy(wider, f), wider, again)
			wantValue(t, "replaced relation", valueBy(wider, f), x, again)
		}
	}
}

func TestExtendTemplate(t *testing.T) {
	x := impl.Template{Size: 3}
	for i, text := range []string{"2 3 =:02", "1 1", "1 2 R0:01 =:01", "3 3 R0:01 R0:12", "4 8 R3:012", "2 4 R4:0123"} {
		f := formula(text)
		want := impl.Template{Size: 3, Rels: append(slices.Clone(x.Rels), valueBy(x, f))}
		wantCall(t, "ExtendTemplate", []any{want, 0}, impl.ExtendTemplate, roomyTemplate(x), roomyFormula(f))
		x = want
		same(t, "relations", len(x.Rels), i+1)
	}
	for _, f := range []string{"1 1", "2 2 =:01", "4 8 R5:01"} {
		wantCode(t, "ExtendTemplate", impl.ErrLimit, impl.ExtendTemplate, x, formula(f))
	}
	wantCode(t, "ExtendTemplate", impl.ErrLimit, impl.ExtendTemplate, largest(), formula("4 4 R5:0123"))
	full := impl.Rel{Arity: 4, Tuples: listsOf(4, 4)}
	wantCall(t, "ExtendTemplate", []any{impl.Template{Size: 4, Rels: []impl.Rel{full}}, 0}, impl.ExtendTemplate, impl.Template{Size: 4}, formula("4 8"))
	wantCall(t, "ExtendTemplate", []any{impl.Template{Size: 2, Rels: []impl.Rel{{Arity: 1}, {Arity: 3}}}, 0}, impl.ExtendTemplate, impl.Template{Size: 2, Rels: []impl.Rel{{Arity: 1}}}, formula("3 4 R0:3"))
}

func TestComparedFormulas(t *testing.T) {
	source := rand.New(rand.NewPCG(24, 3))
	for _, x := range append(someTemplates(), mixed()) {
		formulas := append(someFormulas(source, x, 6), formula("1 1"), formula("2 2"), formula("2 3 =:02 =:12"))
		for _, f := range formulas {
			for _, g := range formulas {
				checkCompared(t, x, f, g)
			}
		}
	}
	x := mixed()
	wantCall(t, "FirstApart", []any{[]int64{0, 0}, 0}, impl.FirstApart, x, formula("2 2"), formula("2 2 R0:01"))
	// the first one may be one of the first value or of the second one
	wantCall(t, "FirstApart", []any{[]int64{0, 1}, 0}, impl.FirstApart, x, formula("2 2 R0:01"), formula("2 2 R0:10"))
	wantCall(t, "FirstApart", []any{[]int64{0, 1}, 0}, impl.FirstApart, x, formula("2 2 R0:10"), formula("2 2 R0:01"))
	wantCall(t, "FirstApart", []any{[]int64{1}, 0}, impl.FirstApart, x, formula("1 2 R1:0 R1:1"), formula("1 8"))
	wantCode(t, "FirstApart", impl.ErrNotFound, impl.FirstApart, x, formula("2 2 =:01"), formula("2 3 =:12 =:20"))
	wantCall(t, "AreEquivalent", []any{true, 0}, impl.AreEquivalent, x, formula("2 2 =:01"), formula("2 3 =:12 =:20"))
	for _, pair := range [][2]string{{"1 1", "2 2"}, {"2 2", "1 2"}, {"4 4 =:01", "3 4 =:01"}} {
		wantCode(t, "AreEquivalent", impl.ErrState, impl.AreEquivalent, x, formula(pair[0]), formula(pair[1]))
		wantCode(t, "FirstApart", impl.ErrState, impl.FirstApart, x, formula(pair[0]), formula(pair[1]))
	}
}

// checkCompared compares what is said of two formulas with the definition.
func checkCompared(t *testing.T, x impl.Template, f, g impl.Formula) {
	t.Helper()
	if f.Free != g.Free {
		wantCode(t, "AreEquivalent", impl.ErrState, impl.AreEquivalent, x, f, g)
		wantCode(t, "FirstApart", impl.ErrState, impl.FirstApart, x, f, g)
		return
	}
	left, right := setOf(valueBy(x, f)), setOf(valueBy(x, g))
	for _, tuple := range listsOf(x.Size, f.Free) {
		if left[keyOf(tuple)] != right[keyOf(tuple)] {
			wantCall(t, "AreEquivalent", []any{false, 0}, impl.AreEquivalent, roomyTemplate(x), roomyFormula(f), roomyFormula(g))
			wantCall(t, "FirstApart", []any{tuple, 0}, impl.FirstApart, roomyTemplate(x), roomyFormula(f), roomyFormula(g))
			return
		}
	}
	wantCall(t, "AreEquivalent", []any{true, 0}, impl.AreEquivalent, roomyTemplate(x), roomyFormula(f), roomyFormula(g))
	wantCode(t, "FirstApart", impl.ErrNotFound, impl.FirstApart, x, f, g)
}

func TestOperationsKeepValues(t *testing.T) {
	checked := 0
	eachFormula(4, func(x impl.Template, f impl.Formula) {
		value, _ := impl.ValueOf(x, f)
		for arity := int64(1); arity <= 3; arity++ {
			for _, op := range someOps(x.Size, arity) {
				broken, _ := impl.KeepsAll(x, op)
				if broken >= 0 || arity == 3 && len(value.Tuples) > 40 {
					continue
				}
				checked++
				wantCall(t, "Keeps the value", []any{true, 0}, impl.Keeps, x.Size, op, value)
			}
		}
	})
	if checked < 1000 {
		t.Errorf("only %d operations checked", checked)
	}
}

func TestNumbersFarAway(t *testing.T) {
	// numbers that wrap around when something is added to them
	for _, number := range []int64{math.MaxInt64, math.MinInt64, math.MaxInt64 - 7, math.MinInt64 + 7} {
		wantMade(t, "PlaceFormula", wrong(impl.ErrRange), impl.PlaceFormula, mixed(), formula("2 8"), number, []int64{0, 1})
		wantMade(t, "HideVariable", wrong(impl.ErrRange), impl.HideVariable, mixed(), formula("2 8"), number)
		wantMade(t, "ReplaceRel", wrong(impl.ErrRange), impl.ReplaceRel, mixed(), formula("2 8"), number, formula("2 8"))
		wantMade(t, "AtomFormula", wrong(impl.ErrRange), impl.AtomFormula, mixed(), number)
	}
}
