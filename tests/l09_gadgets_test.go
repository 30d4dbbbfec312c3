package tests

import (
	"math/rand/v2"
	"slices"
	"testing"

	"loop.example/g01085/impl"
)

// gadgets returns the gadgets with the formulas that short texts tell.
func gadgets(shorts ...string) impl.Gadgets {
	var g impl.Gadgets
	for _, text := range shorts {
		g.Formulas = append(g.Formulas, formula(text))
	}
	return g
}

// shortGadgets writes gadgets down, with a short text for each formula.
func shortGadgets(g impl.Gadgets) []string {
	var shorts []string
	for _, f := range g.Formulas {
		shorts = append(shorts, short(f))
	}
	return shorts
}

// roomyGadgets returns the same gadgets in slices that have capacity left.
func roomyGadgets(g impl.Gadgets) impl.Gadgets {
	formulas := make([]impl.Formula, 0, len(g.Formulas)+2)
	for _, f := range g.Formulas {
		formulas = append(formulas, roomyFormula(f))
	}
	copy(formulas[len(formulas):cap(formulas)], []impl.Formula{{Free: 9, Atoms: []impl.Atom{{Rel: 9}}}, {Vars: 8}})
	return impl.Gadgets{Formulas: formulas}
}

// madeBy returns the template from which gadgets to u are valid, by the
// definition of values.
func madeBy(u impl.Template, g impl.Gadgets) impl.Template {
	x := impl.Template{Size: u.Size}
	for _, f := range g.Formulas {
		x.Rels = append(x.Rels, valueBy(u, f))
	}
	return x
}

// eachGadgets runs a check for gadgets to many templates.
func eachGadgets(seed uint64, check func(x, u impl.Template, g impl.Gadgets)) {
	source := rand.New(rand.NewPCG(seed, 9))
	for _, u := range append(someTemplates(), mixed(), example(), less()) {
		g := impl.Gadgets{Formulas: someFormulas(source, u, source.IntN(5))}
		check(madeBy(u, g), u, g)
	}
}

// apartBy returns the first tuple of only one of two relations.
func apartBy(size int64, r, s impl.Rel) []int64 {
	left, right := setOf(r), setOf(s)
	for _, tuple := range listsOf(size, r.Arity) {
		if left[keyOf(tuple)] != right[keyOf(tuple)] {
			return tuple
		}
	}
	return nil
}

// wrongBy returns what FirstWrong has to return, by the definition.
func wrongBy(x, u impl.Template, g impl.Gadgets) []any {
	isOther := func(f impl.Formula) bool { return !impl.ValidFormula(u, f) }
	if !impl.ValidTemplate(x) || !impl.ValidTemplate(u) || x.Size != u.Size || len(g.Formulas) != len(x.Rels) || slices.ContainsFunc(g.Formulas, isOther) {
		return []any{0, "[]", impl.ErrInvalid}
	}
	for i, f := range g.Formulas {
		if f.Free != x.Rels[i].Arity {
			return []any{0, "[]", impl.ErrInvalid}
		}
	}
	for i, f := range g.Formulas {
		if tuple := apartBy(x.Size, valueBy(u, f), x.Rels[i]); tuple != nil {
			return []any{i, tuple, 0}
		}
	}
	return []any{0, "[]", impl.ErrNotFound}
}

// checkGadgets compares what is said of gadgets with the definition, and reports
// whether they are valid.
func checkGadgets(t *testing.T, x, u impl.Template, g impl.Gadgets) bool {
	t.Helper()
	want := wrongBy(x, u, g)
	isValid := want[2] == impl.ErrNotFound
	wantCall(t, "FirstWrong", want, impl.FirstWrong, x, u, roomyGadgets(g))
	wantCall(t, "ValidGadgets", []any{isValid}, impl.ValidGadgets, x, u, roomyGadgets(g))
	return isValid
}

// wantValid checks whether gadgets are valid.
func wantValid(t *testing.T, want bool, x, u impl.Template, g impl.Gadgets) {
	t.Helper()
	if checkGadgets(t, x, u, g) != want {
		t.Errorf("gadgets %v from %v to %v: valid is not %v", shortGadgets(g), x, u, want)
	}
}

// wantWrong checks which formula of gadgets is the first wrong one.
func wantWrong(t *testing.T, x, u impl.Template, g impl.Gadgets, index int64, tuple string) {
	t.Helper()
	checkGadgets(t, x, u, g)
	wantCall(t, "FirstWrong", []any{index, tuple, 0}, impl.FirstWrong, roomyTemplate(x), roomyTemplate(u), g)
}

// equality is the template of the pairs of equal values of the size 2.
func equality() impl.Template { return graph(2, []int64{0, 0}, []int64{1, 1}) }

func TestExampleOfChapter9(t *testing.T) {
	g := gadgets("2 3 R0:02 R0:21")
	wantCall(t, "ValidGadgets", []any{true}, impl.ValidGadgets, equality(), swap(), g)
	wantCall(t, "ApplyGadgets", []any{"{3 [{0 [0 2]} {0 [2 1]}]}", "[0 1]", 0}, impl.ApplyGadgets, equality(), swap(), g, instance("2 0:01"))
	wantCall(t, "ClassesOf", []any{"[5 6]", 0}, impl.ClassesOf, swap())
	wantCall(t, "EquationsOver", []any{"[[1 1 1]]", 0}, impl.EquationsOver, swap().Rels[0])
	wantCall(t, "WhyNotClass", []any{0, "[[0 1] [1 0]]", "[0 0]", 0}, impl.WhyNotClass, swap(), impl.ClAnd)
}

func TestNumbersOfChapter9(t *testing.T) {
	same(t, "classes", []int64{impl.ClZero, impl.ClOne, impl.ClAnd, impl.ClOr, impl.ClMajority, impl.ClMinority}, "[1 2 3 4 5 6]")
}

// nearRels returns the relations with one tuple more or less.
func nearRels(size int64, r impl.Rel) []impl.Rel {
	var list []impl.Rel
	set := setOf(r)
	for i, tuple := range listsOf(size, r.Arity) {
		if i < 6 || i%11 == 0 {
			isOther := func(other []int64) bool { return set[keyOf(other)] != slices.Equal(other, tuple) }
			list = append(list, relWhere(size, r.Arity, isOther))
		}
	}
	return list
}

func TestGadgetsByDefinition(t *testing.T) {
	valid, others := 0, 0
	source := rand.New(rand.NewPCG(91, 9))
	eachGadgets(91, func(x, u impl.Template, g impl.Gadgets) {
		wantValid(t, true, x, u, g)
		valid++
		if len(g.Formulas) == 0 {
			return
		}
		// another relation, several others, or another formula
		at := source.IntN(len(x.Rels))
		for _, r := range nearRels(x.Size, x.Rels[at]) {
			near := impl.Template{Size: x.Size, Rels: slices.Clone(x.Rels)}
			near.Rels[at] = r
			wantValid(t, false, near, u, g)
			last := len(x.Rels) - 1
			near.Rels[last] = nearRels(x.Size, x.Rels[last])[0]
			wantValid(t, false, near, u, g)
		}
		for _, f := range someFormulas(source, u, 4) {
			near := impl.Gadgets{Formulas: slices.Clone(g.Formulas)}
			near.Formulas[at] = f
			if !checkGadgets(t, x, u, near) {
				others++
			}
		}
	})
	if valid < 70 || others < 100 {
		t.Errorf("only %d gadgets are valid, and %d are not", valid, others)
	}
}

func TestGadgetsThatAreNotValid(t *testing.T) {
	x, u, g := equality(), swap(), gadgets("2 3 R0:02 R0:21")
	wantValid(t, true, x, u, g)
	// templates of other sizes
	for size := int64(1); size <= 4; size++ {
		wantValid(t, size == 2, impl.Template{Size: size}, impl.Template{Size: 2}, impl.Gadgets{})
		wantValid(t, size == 2, impl.Template{Size: 2}, impl.Template{Size: size}, impl.Gadgets{Formulas: []impl.Formula{}})
		wantValid(t, size == 2, x, impl.Template{Size: size}, gadgets("2 2 =:01"))
	}
	// templates that are not valid
	for _, bad := range badTemplates() {
		wantValid(t, false, bad, bad, impl.Gadgets{})
		wantValid(t, false, bad, bad, g)
		wantValid(t, false, x, bad, gadgets("2 2 =:01"))
		wantValid(t, false, bad, u, gadgets("2 2 R0:01"))
		wantValid(t, false, bad, u, impl.Gadgets{})
		wantValid(t, false, impl.Template{Size: 2}, bad, impl.Gadgets{})
	}
	// too few formulas, and too many
	f := g.Formulas[0]
	for rels := range 7 {
		many := impl.Template{Size: 2, Rels: slices.Repeat(x.Rels, rels)}
		for formulas := range 9 {
			wantValid(t, rels == formulas, many, u, impl.Gadgets{Formulas: slices.Repeat([]impl.Formula{f}, formulas)})
		}
	}
	// other free variables than the arity
	full := func(arity int64) impl.Template {
		return impl.Template{Size: 2, Rels: []impl.Rel{relWhere(2, arity, func([]int64) bool { return true })}}
	}
	for arity := int64(1); arity <= 4; arity++ {
		for free := int64(1); free <= 4; free++ {
			wantValid(t, free == arity, full(arity), u, impl.Gadgets{Formulas: []impl.Formula{{Free: free, Vars: 4}}})
		}
	}
	wantValid(t, false, full(2), u, gadgets("1 2"))
	wantValid(t, false, x, u, gadgets("3 3 R0:02 R0:21"))
	// formulas that are not valid for u, for others they may be
	for _, text := range []string{"2 3 R1:02 R1:21", "2 3 R0:03 R0:31", "2 3 R0:0 R0:21", "2 2 =:012", "2 9 =:01", "2 1 =:01", "2 2" + repeated(" =:01", 17)} {
		wantValid(t, false, x, u, gadgets(text))
	}
	wantValid(t, true, x, u, gadgets("2 2"+repeated(" =:01", 16)))
	wantValid(t, true, x, u, gadgets("2 8 =:01"))
	wantValid(t, true, x, impl.Template{Size: 2, Rels: append(u.Rels, x.Rels...)}, gadgets("2 2 R1:01"))
	wantValid(t, false, x, impl.Template{Size: 2, Rels: append(u.Rels, x.Rels...)}, gadgets("2 2 R2:01"))
	for _, bad := range badFormulas() {
		made := impl.Template{Size: 3, Rels: []impl.Rel{{Arity: min(max(bad.Free, 1), 4)}}}
		wantValid(t, false, made, mixed(), impl.Gadgets{Formulas: []impl.Formula{bad}})
	}
}

func TestFirstWrong(t *testing.T) {
	x, u := template(t, "2/2 00 11/1 0 1/2 01 10/3"), swap()
	wantValid(t, true, x, u, gadgets("2 3 R0:02 R0:21", "1 2 R0:01", "2 2 R0:01", "3 3 R0:00"))
	// a tuple too many, and one too few
	wantWrong(t, equality(), u, gadgets("2 2"), 0, "[0 1]")
	wantWrong(t, equality(), u, gadgets("2 2 R0:00"), 0, "[0 0]")
	wantWrong(t, equality(), u, gadgets("2 2 R0:01"), 0, "[0 0]")
	wantWrong(t, equality(), template(t, "2/1 0"), gadgets("2 2 =:01 R0:1"), 0, "[1 1]")
	wantWrong(t, equality(), template(t, "2/2 00 10 11"), gadgets("2 2 R0:01"), 0, "[1 0]")
	wantWrong(t, swap(), template(t, "2/2 01 10 11"), gadgets("2 2 R0:01"), 0, "[1 1]")
	// the first tuple of only one of both, whichever has it
	wantWrong(t, template(t, "2/2 01 11"), template(t, "2/2 00 01"), gadgets("2 2 R0:01"), 0, "[0 0]")
	wantWrong(t, template(t, "2/2 00 01"), template(t, "2/2 01 11"), gadgets("2 2 R0:01"), 0, "[0 0]")
	wantWrong(t, template(t, "4/2 00 12 33"), template(t, "4/2 00 13 33"), gadgets("2 2 R0:01"), 0, "[1 2]")
	wantWrong(t, template(t, "4/2 00 13 33"), template(t, "4/2 00 12 33"), gadgets("2 2 R0:01"), 0, "[1 2]")
	wantWrong(t, template(t, "4/4 3333"), template(t, "4/4"), gadgets("4 4 R0:0123"), 0, "[3 3 3 3]")
	wantWrong(t, template(t, "4/4"), template(t, "4/4 3333"), gadgets("4 4 R0:0123"), 0, "[3 3 3 3]")
	// the first one of several formulas
	wantWrong(t, x, u, gadgets("2 3 R0:02 R0:21", "1 2 R0:01", "2 2 R0:01", "3 3 R0:01"), 3, "[0 1 0]")
	wantWrong(t, x, u, gadgets("2 3 R0:02 R0:21", "1 2 R0:01", "2 2", "3 3 R0:01"), 2, "[0 0]")
	wantWrong(t, x, u, gadgets("2 3 R0:02 R0:21", "1 2 R0:11", "2 2", "3 3 R0:01"), 1, "[0]")
	wantWrong(t, x, u, gadgets("2 3 R0:02 R0:21 R0:01", "1 2 R0:11", "2 2", "3 3"), 0, "[0 0]")
	wantWrong(t, impl.Template{Size: 2, Rels: append(slices.Repeat(equality().Rels, 5), swap().Rels...)}, u, gadgets(slices.Repeat([]string{"2 2 =:01"}, 6)...), 5, "[0 0]")
	// none is wrong
	wantCall(t, "FirstWrong", []any{0, "[]", impl.ErrNotFound}, impl.FirstWrong, equality(), u, gadgets("2 3 R0:02 R0:21"))
	wantCall(t, "FirstWrong", []any{0, "[]", impl.ErrNotFound}, impl.FirstWrong, impl.Template{Size: 2}, u, impl.Gadgets{})
	// ahead of a formula that is not valid, too
	wantCode(t, "FirstWrong", impl.ErrInvalid, impl.FirstWrong, x, u, gadgets("2 2", "1 1", "2 2", "3 3 R1:012"))
	wantCode(t, "FirstWrong", impl.ErrInvalid, impl.FirstWrong, x, u, gadgets("2 2", "1 1", "2 2"))
	wantCode(t, "FirstWrong", impl.ErrInvalid, impl.FirstWrong, x, u, gadgets("2 2", "1 1", "2 2", "3 3", "1 1"))
	wantCode(t, "FirstWrong", impl.ErrInvalid, impl.FirstWrong, x, u, gadgets("2 2", "1 1", "2 2", "2 3"))
}

func TestLargestGadgets(t *testing.T) {
	u := largest()
	var shorts []string
	for _, rel := range "012345" {
		shorts = append(shorts, "4 8 R"+string(rel)+":0123 R"+string(rel)+":7654"+repeated(" =:77", 14))
	}
	g := gadgets(shorts...)
	x := madeBy(u, g)
	wantValid(t, true, x, u, g)
	last := x.Rels[5].Tuples[len(x.Rels[5].Tuples)-1]
	x.Rels[5].Tuples = x.Rels[5].Tuples[:len(x.Rels[5].Tuples)-1]
	wantCall(t, "FirstWrong", []any{5, last, 0}, impl.FirstWrong, x, u, g)
	// no values fit, which is seen at the last variables alone
	none := template(t, "4/1/1 0 1 2 3")
	wantValid(t, true, template(t, "4/4/4"), none, gadgets("4 8 R1:0 R1:4 R0:7", "4 8 R0:7"))
}

func TestSameGadgets(t *testing.T) {
	list := []impl.Gadgets{
		{}, gadgets("1 1"), gadgets("2 2 R0:01"), gadgets("2 2 R0:10"), gadgets("2 2 R0:01", "2 2 R0:01"), gadgets("2 2 R0:01", "1 1"), gadgets("1 1", "2 2 R0:01"), gadgets("2 3 R0:01"), gadgets("2 2 =:01"), gadgets("1 1", "1 1", "1 1"),
		// not valid for any templates
		{Formulas: []impl.Formula{{}}}, {Formulas: []impl.Formula{{}, {}}}, {Formulas: slices.Repeat([]impl.Formula{{Free: -1, Vars: 99}}, 9)}, {Formulas: []impl.Formula{{Atoms: []impl.Atom{{Rel: -7}}}}}, {Formulas: []impl.Formula{{Atoms: []impl.Atom{{Args: []int64{-1}}}}}},
	}
	for i, g := range list {
		for j, h := range list {
			wantCall(t, "SameGadgets", []any{i == j}, impl.SameGadgets, g, h)
		}
		wantCall(t, "SameGadgets", []any{true}, impl.SameGadgets, g, roomyGadgets(g))
	}
	wantCall(t, "SameGadgets", []any{true}, impl.SameGadgets, impl.Gadgets{}, impl.Gadgets{Formulas: []impl.Formula{}})
	wantCall(t, "SameGadgets", []any{true}, impl.SameGadgets, gadgets("1 1"), impl.Gadgets{Formulas: []impl.Formula{{Free: 1, Vars: 1, Atoms: []impl.Atom{}}}})
	wantCall(t, "SameGadgets", []any{true}, impl.SameGadgets, impl.Gadgets{Formulas: []impl.Formula{{Atoms: []impl.Atom{{}}}}}, impl.Gadgets{Formulas: []impl.Formula{{Atoms: []impl.Atom{{Args: []int64{}}}}}})
}

// wantOwn checks the gadgets from a template to itself.
func wantOwn(t *testing.T, x impl.Template, shorts ...string) {
	t.Helper()
	wantCall(t, "OwnGadgets", []any{gadgets(shorts...), 0}, impl.OwnGadgets, roomyTemplate(x))
}

func TestOwnGadgets(t *testing.T) {
	for size := int64(1); size <= 4; size++ {
		wantOwn(t, impl.Template{Size: size})
	}
	wantOwn(t, swap(), "2 2 R0:01")
	wantOwn(t, mixed(), "2 2 R0:01", "1 1 R1:0", "3 3 R2:012", "4 4 R3:0123")
	wantOwn(t, template(t, "2/1/4"), "1 1 R0:0", "4 4 R1:0123")
	wantOwn(t, largest(), "4 4 R0:0123", "4 4 R1:0123", "4 4 R2:0123", "4 4 R3:0123", "4 4 R4:0123", "4 4 R5:0123")
	for _, x := range append(someTemplates(), largest()) {
		own, code := impl.OwnGadgets(x)
		same(t, "code of OwnGadgets", code, impl.OK)
		wantValid(t, true, x, x, own)
	}
	for _, bad := range badTemplates() {
		wantCode(t, "OwnGadgets", impl.ErrInvalid, impl.OwnGadgets, bad)
	}
}
