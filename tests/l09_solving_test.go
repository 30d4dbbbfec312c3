package tests

import (
	"fmt"
	"math/rand/v2"
	"slices"
	"sync"
	"testing"

	"loop.example/g01085/impl"
)

// byArcsBy returns the values that are chosen from the domains that arcs leave,
// by the definition.
func byArcsBy(x impl.Template, y impl.Instance, choose func(values []int64) int64) []int64 {
	left, _ := arcsBy(x, y, fullDomains(2, y.Vars))
	if slices.ContainsFunc(left, isNone) {
		return nil
	}
	var chosen []int64
	for _, values := range left {
		chosen = append(chosen, choose(values))
	}
	return chosen
}

// byPairsBy returns the values that are chosen from the pairs that are left, by
// the definition.
func byPairsBy(x impl.Template, y impl.Instance) []int64 {
	if y.Vars == 1 {
		for _, solution := range solutionsBy(x, y) {
			return solution
		}
		return nil
	}
	left, _, _ := pairsBy(x, y)
	if slices.ContainsFunc(left, isEmpty) {
		return nil
	}
	chosen := []int64{left[0].Tuples[0][0]}
	for next := int64(1); next < y.Vars; next++ {
		stands := func(value int64) bool {
			for i, before := range chosen {
				isPair := func(pair []int64) bool { return pair[0] == before && pair[1] == value }
				if !slices.ContainsFunc(left[next*(next-1)/2+int64(i)].Tuples, isPair) {
					return false
				}
			}
			return true
		}
		value := int64(0)
		for !stands(value) {
			value++
		}
		chosen = append(chosen, value)
	}
	return chosen
}

// addMod adds a list to another one, modulo 2.
func addMod(list, other []int64) []int64 {
	sum := slices.Clone(list)
	for i := range sum {
		sum[i] = (sum[i] + other[i]) % 2
	}
	return sum
}

// byParitiesBy returns the values that the equations tell, by the definition:
// each equation that is left has the variable that it tells at the same index.
func byParitiesBy(x impl.Template, y impl.Instance) []int64 {
	var rows [][]int64
	var tells []int
	for _, c := range y.Cons {
		for _, e := range paritiesBy(x.Rels[c.Rel]) {
			row := make([]int64, y.Vars+1)
			for place, variable := range c.Scope {
				row[variable] = (row[variable] + e[place]) % 2
			}
			row[y.Vars] = e[len(c.Scope)]
			for i, before := range rows {
				if row[tells[i]] == 1 {
					row = addMod(row, before)
				}
			}
			first := slices.Index(row, 1)
			if first == int(y.Vars) {
				return nil
			}
			if first < 0 {
				continue
			}
			for i, before := range rows {
				if before[first] == 1 {
					rows[i] = addMod(before, row)
				}
			}
			rows, tells = append(rows, row), append(tells, first)
		}
	}
	values := make([]int64, y.Vars)
	for i, row := range rows {
		values[tells[i]] = row[y.Vars]
	}
	return values
}

// solvedBy returns what SolveByClass has to return for a template of the size 2.
func solvedBy(x impl.Template, y impl.Instance, class int64) []any {
	isConstant := class <= impl.ClOne
	if whyNotBy(x, class)[3] == 0 || isConstant && slices.ContainsFunc(x.Rels, isEmpty) {
		return []any{"[]", impl.ErrState}
	}
	var values []int64
	switch class {
	case impl.ClZero, impl.ClOne:
		values = slices.Repeat([]int64{class - impl.ClZero}, int(y.Vars))
	case impl.ClAnd:
		values = byArcsBy(x, y, slices.Min[[]int64])
	case impl.ClOr:
		values = byArcsBy(x, y, slices.Max[[]int64])
	case impl.ClMajority:
		values = byPairsBy(x, y)
	case impl.ClMinority:
		values = byParitiesBy(x, y)
	}
	if values == nil {
		return []any{"[]", impl.ErrNotFound}
	}
	return []any{values, 0}
}

// checkSolving compares what all classes make of an instance with the
// definition, and with its solutions; it returns for which classes it is solved,
// and for which it is told that there is no solution.
func checkSolving(t *testing.T, x impl.Template, y impl.Instance) (solved, refuted []int64) {
	t.Helper()
	for class := int64(1); class <= 6; class++ {
		want := solvedBy(x, y, class)
		wantCall(t, "SolveByClass", want, impl.SolveByClass, roomyTemplate(x), roomyInstance(y), class)
		values, code := impl.SolveByClass(x, y, class)
		switch code {
		case impl.OK:
			solved = append(solved, class)
			same(t, fmt.Sprint("failing constraint of ", values, " in ", shortOf(y)), failingBy(x, y, values), -1)
		case impl.ErrNotFound:
			refuted = append(refuted, class)
			_, code := impl.FirstSolution(x, y)
			same(t, "FirstSolution of "+shortOf(y), code, impl.ErrNotFound)
		}
	}
	return solved, refuted
}

func TestSolvingByDefinition(t *testing.T) {
	source := rand.New(rand.NewPCG(99, 9))
	solved, refuted := map[int64]int{}, map[int64]int{}
	for class, f := range classOps() {
		if class == 0 {
			continue
		}
		for _, x := range closedTemplates(uint64(class), 2, 50, f) {
			for range 4 {
				found, none := checkSolving(t, x, randomInstance(source, x, 1+source.Int64N(6), source.IntN(9)))
				for _, class := range found {
					solved[class]++
				}
				for _, class := range none {
					refuted[class]++
				}
			}
		}
	}
	for class := int64(1); class <= 6; class++ {
		if solved[class] < 60 || refuted[class] < 60 && class > impl.ClOne {
			t.Errorf("the class %d solves only %d instances, and refutes %d", class, solved[class], refuted[class])
		}
	}
}

// TestSmallTemplatesAreSolved has all templates with one relation of the arities
// 1 and 2, and a few instances of each.
func TestSmallTemplatesAreSolved(t *testing.T) {
	for _, r := range allRels(2, 1) {
		for _, short := range []string{"1", "1 0:0", "3 0:1 0:2"} {
			checkSolving(t, impl.Template{Size: 2, Rels: []impl.Rel{r}}, instance(short))
		}
	}
	for _, r := range allRels(2, 2) {
		for _, short := range []string{"1", "1 0:00", "2 0:01", "2 0:10", "3 0:12 0:01", "3 0:01 0:12 0:20", "4 0:01 0:23 0:30", "5 0:41 0:02 0:10 0:33"} {
			checkSolving(t, impl.Template{Size: 2, Rels: []impl.Rel{r}}, instance(short))
		}
	}
}

// wantSolved checks what a class makes of an instance.
func wantSolved(t *testing.T, x impl.Template, short string, class int64, want string) {
	t.Helper()
	wantCall(t, "SolveByClass", []any{want, 0}, impl.SolveByClass, x, instance(short), class)
	checkSolving(t, x, instance(short))
}

// wantNotSolved checks the code of a class for an instance.
func wantNotSolved(t *testing.T, x impl.Template, short string, class, want int64) {
	t.Helper()
	wantCode(t, "SolveByClass", want, impl.SolveByClass, x, instance(short), class)
	checkSolving(t, x, instance(short))
}

func TestSolvedByConstants(t *testing.T) {
	x := template(t, "2/2 00 01 10/1 0/3 000 011 101")
	wantSolved(t, x, "1", impl.ClZero, "[0]")
	wantSolved(t, x, "4 0:01 1:2 2:012 0:33", impl.ClZero, "[0 0 0 0]")
	wantSolved(t, x, "10 0:99", impl.ClZero, "[0 0 0 0 0 0 0 0 0 0]")
	wantNotSolved(t, x, "4 0:01", impl.ClOne, impl.ErrState)
	y := template(t, "2/2 01 10 11/1 1")
	wantSolved(t, y, "3 0:01 1:2", impl.ClOne, "[1 1 1]")
	wantSolved(t, y, "10", impl.ClOne, "[1 1 1 1 1 1 1 1 1 1]")
	wantNotSolved(t, y, "3 0:01", impl.ClZero, impl.ErrState)
	// an empty relation, also if no constraint has it
	for _, text := range []string{"2/1", "2/1 0 1/2", "2/4/1 0 1", "2/2 00 11/3/2 00 11"} {
		for class := int64(impl.ClZero); class <= impl.ClOne; class++ {
			wantCall(t, "IsOfClass", []any{true, 0}, impl.IsOfClass, template(t, text), class)
			wantNotSolved(t, template(t, text), "2", class, impl.ErrState)
		}
		for class := int64(impl.ClAnd); class <= impl.ClMinority; class++ {
			want, code := []int64{0, 0}, int64(impl.OK)
			if class == impl.ClOr {
				want = []int64{1, 1}
			}
			wantCall(t, "SolveByClass", []any{want, code}, impl.SolveByClass, template(t, text), instance("2"), class)
		}
	}
	wantSolved(t, template(t, "2"), "2", impl.ClZero, "[0 0]")
	wantSolved(t, template(t, "2"), "2", impl.ClOne, "[1 1]")
}

func TestSolvedByArcs(t *testing.T) {
	x := template(t, "2/2 00 01 11/1 0/1 1/3 000 001 010 011 100 101 110")
	wantSolved(t, x, "3 0:01 0:12", impl.ClAnd, "[0 0 0]")
	wantSolved(t, x, "4 0:01 0:12 2:1", impl.ClAnd, "[0 1 1 0]")
	wantSolved(t, x, "4 3:012 2:0 2:2", impl.ClAnd, "[1 0 1 0]")
	wantNotSolved(t, x, "4 3:012 2:0 2:2", impl.ClOr, impl.ErrState)
	y := template(t, "2/2 00 01 11/1 0/1 1/3 001 010 011 100 101 110 111")
	wantSolved(t, y, "3 0:01 0:12", impl.ClOr, "[1 1 1]")
	wantSolved(t, y, "4 0:01 0:12 1:1", impl.ClOr, "[0 0 1 1]")
	wantSolved(t, y, "4 3:012 1:0 1:2", impl.ClOr, "[0 1 0 1]")
	// domains that arcs empty
	for _, class := range []int64{impl.ClAnd, impl.ClOr} {
		z := template(t, "2/2 00 01 11/1 0/1 1")
		wantNotSolved(t, z, "3 0:01 2:0 1:1", class, impl.ErrNotFound)
		wantNotSolved(t, z, "5 0:01 0:12 0:23 0:34 2:0 1:4", class, impl.ErrNotFound)
		wantNotSolved(t, z, "1 2:0 1:0", class, impl.ErrNotFound)
		wantNotSolved(t, template(t, "2/1"), "3 0:1", class, impl.ErrNotFound)
		wantNotSolved(t, template(t, "2/2"), "3 0:22", class, impl.ErrNotFound)
	}
	wantSolved(t, template(t, "2/2 00 01 11/1 0/1 1"), "4 0:01 0:12 1:1 2:3", impl.ClAnd, "[0 0 0 1]")
	wantSolved(t, template(t, "2/2 00 01 11/1 0/1 1"), "4 0:01 0:12 1:1 2:3", impl.ClOr, "[0 0 1 1]")
}

func TestSolvedByPairs(t *testing.T) {
	x := template(t, "2/2 01 10/1 0/1 1/2 01 10 11/2 00 01 11")
	// one variable
	wantSolved(t, x, "1", impl.ClMajority, "[0]")
	wantSolved(t, x, "1 2:0", impl.ClMajority, "[1]")
	wantSolved(t, x, "1 3:00", impl.ClMajority, "[1]")
	wantSolved(t, x, "1 1:0 4:00", impl.ClMajority, "[0]")
	wantNotSolved(t, x, "1 1:0 2:0", impl.ClMajority, impl.ErrNotFound)
	wantNotSolved(t, x, "1 0:00", impl.ClMajority, impl.ErrNotFound)
	wantNotSolved(t, x, "1 1:0 3:00", impl.ClMajority, impl.ErrNotFound)
	// two, and three
	wantSolved(t, x, "2", impl.ClMajority, "[0 0]")
	wantSolved(t, x, "2 0:01", impl.ClMajority, "[0 1]")
	wantSolved(t, x, "2 3:10 2:1", impl.ClMajority, "[0 1]")
	wantSolved(t, x, "2 4:10 2:1", impl.ClMajority, "[1 1]")
	wantSolved(t, x, "3 3:01 3:12 3:02", impl.ClMajority, "[0 1 1]")
	wantSolved(t, x, "3 0:12 2:2", impl.ClMajority, "[0 0 1]")
	wantNotSolved(t, x, "2 0:01 4:01 4:10", impl.ClMajority, impl.ErrNotFound)
	// pairs that are empty, at the beginning and behind some steps
	wantNotSolved(t, x, "2 0:00", impl.ClMajority, impl.ErrNotFound)
	wantNotSolved(t, x, "3 1:2 2:2", impl.ClMajority, impl.ErrNotFound)
	wantNotSolved(t, x, "3 0:01 0:12 0:02", impl.ClMajority, impl.ErrNotFound)
	wantNotSolved(t, x, "7 0:01 0:12 0:23 0:34 0:45 0:56 0:60", impl.ClMajority, impl.ErrNotFound)
	wantNotSolved(t, template(t, "2/1"), "2 0:1", impl.ClMajority, impl.ErrNotFound)
	wantNotSolved(t, template(t, "2/2"), "4 0:12", impl.ClMajority, impl.ErrNotFound)
	// more than three variables
	wantSolved(t, x, "4 0:01 0:12 0:23", impl.ClMajority, "[0 1 0 1]")
	wantSolved(t, x, "6 3:01 3:12 3:23 3:34 3:45 3:50", impl.ClMajority, "[0 1 0 1 0 1]")
	wantSolved(t, x, "5 3:01 3:12 3:23 3:34 3:40", impl.ClMajority, "[0 1 0 1 1]")
	wantSolved(t, x, "6 0:50 3:43 4:14 2:1", impl.ClMajority, "[0 1 0 0 1 1]")
	wantSolved(t, x, "10 0:01 0:12 0:23 0:34 0:45 0:56 0:67 0:78 0:89 2:9", impl.ClMajority, "[0 1 0 1 0 1 0 1 0 1]")
	wantSolved(t, x, "10 0:01 0:12 0:23 0:34 0:45 0:56 0:67 0:78 0:89 1:9", impl.ClMajority, "[1 0 1 0 1 0 1 0 1 0]")
	wantSolved(t, template(t, "2/4 0000 0001 0011 0111 1111"), "5 0:0123 0:4321", impl.ClMajority, "[0 0 0 0 0]")
}

func TestSolvedByParities(t *testing.T) {
	x := template(t, "2/2 01 10/1 1/3 000 011 101 110/3 001 010 100 111/4 0000 0011 1100 1111")
	// variables that no equation tells
	wantSolved(t, x, "3", impl.ClMinority, "[0 0 0]")
	wantSolved(t, x, "3 0:02", impl.ClMinority, "[1 0 0]")
	wantSolved(t, x, "3 1:1", impl.ClMinority, "[0 1 0]")
	wantSolved(t, x, "4 3:123", impl.ClMinority, "[0 1 0 0]")
	wantSolved(t, x, "4 2:012 3:123", impl.ClMinority, "[1 1 0 0]")
	wantSolved(t, x, "5 3:432 0:01", impl.ClMinority, "[1 0 1 0 0]")
	// equations that are told by those before
	wantSolved(t, x, "3 0:01 0:10 0:12 4:0202", impl.ClMinority, "[0 1 0]")
	wantSolved(t, x, "4 0:01 0:12 0:23 0:30", impl.ClMinority, "[1 0 1 0]")
	wantSolved(t, x, "3 2:012 2:021 2:210", impl.ClMinority, "[0 0 0]")
	// those before are reduced by those behind
	wantSolved(t, x, "4 0:01 0:12 0:23 1:3", impl.ClMinority, "[0 1 0 1]")
	wantSolved(t, x, "4 2:012 2:123 3:023", impl.ClMinority, "[0 1 1 0]")
	wantSolved(t, x, "4 3:321 2:210 1:3", impl.ClMinority, "[0 0 0 1]")
	// the first variable is told, though the equation before tells a later one
	wantSolved(t, x, "4 0:23 0:13 0:03", impl.ClMinority, "[1 1 1 0]")
	wantSolved(t, x, "3 0:12 2:012", impl.ClMinority, "[1 1 0]")
	// variables that come several times cancel each other out
	wantSolved(t, x, "2 3:001", impl.ClMinority, "[0 1]")
	wantSolved(t, x, "2 3:010", impl.ClMinority, "[0 1]")
	wantSolved(t, x, "2 3:111", impl.ClMinority, "[0 1]")
	wantSolved(t, x, "2 4:0101", impl.ClMinority, "[0 0]")
	// no coefficients, but the sum 1
	wantNotSolved(t, x, "2 0:00", impl.ClMinority, impl.ErrNotFound)
	wantNotSolved(t, x, "3 0:01 0:12 0:02", impl.ClMinority, impl.ErrNotFound)
	wantNotSolved(t, x, "5 0:01 0:12 0:23 0:34 0:40", impl.ClMinority, impl.ErrNotFound)
	wantNotSolved(t, x, "4 2:012 2:123 0:03", impl.ClMinority, impl.ErrNotFound)
	wantNotSolved(t, x, "2 1:0 1:1 0:01", impl.ClMinority, impl.ErrNotFound)
	wantNotSolved(t, template(t, "2/1"), "3 0:1", impl.ClMinority, impl.ErrNotFound)
	wantNotSolved(t, template(t, "2/4"), "4 0:0123", impl.ClMinority, impl.ErrNotFound)
	wantNotSolved(t, template(t, "2/3"), "1 0:000", impl.ClMinority, impl.ErrNotFound)
	// as many variables as there can be, and many constraints
	wantSolved(t, x, "10 0:01 0:12 0:23 0:34 0:45 0:56 0:67 0:78 0:89 1:0", impl.ClMinority, "[1 0 1 0 1 0 1 0 1 0]")
	wantSolved(t, x, "10 0:98 0:87 0:76 0:65 0:54 0:43 0:32 0:21 0:10 3:019", impl.ClMinority, "[1 0 1 0 1 0 1 0 1 0]")
	one := template(t, "2/4 0110")
	wantSolved(t, one, "10 0:0123 0:4567 0:8998"+repeated(" 0:0123", 21), impl.ClMinority, "[0 1 1 0 0 1 1 0 0 1]")
}

func TestInvalidArgumentsOfSolving(t *testing.T) {
	for class := int64(-1); class <= 8; class++ {
		for _, bad := range badInstances() {
			wantCode(t, "SolveByClass", impl.ErrInvalid, impl.SolveByClass, mixed(), bad, class)
		}
		for _, bad := range badTemplates() {
			for _, short := range []string{"1", "2 0:01", "3 0:01 1:2"} {
				wantCode(t, "SolveByClass", impl.ErrInvalid, impl.SolveByClass, bad, instance(short), class)
			}
		}
		wantCode(t, "SolveByClass", impl.ErrInvalid, impl.SolveByClass, swap(), instance("2 1:0"), class)
		wantCode(t, "SolveByClass", impl.ErrInvalid, impl.SolveByClass, impl.Template{Size: 2}, instance("2 0:01"), class)
		// another size ahead of a class that is none
		wantCode(t, "SolveByClass", impl.ErrState, impl.SolveByClass, round(), instance("2 0:01"), class)
		wantCode(t, "SolveByClass", impl.ErrState, impl.SolveByClass, graph(1, []int64{0, 0}), instance("2 0:01"), class)
	}
	// a class that is none ahead of a template that is of none
	none := template(t, "2/3 001 010 100/1")
	for _, class := range noClasses {
		wantCode(t, "SolveByClass", impl.ErrRange, impl.SolveByClass, none, instance("3 0:012"), class)
	}
	for class := int64(1); class <= 6; class++ {
		wantCode(t, "SolveByClass", impl.ErrState, impl.SolveByClass, none, instance("3 0:012"), class)
		wantCode(t, "SolveByClass", impl.ErrState, impl.SolveByClass, none, instance("3 1:0"), class)
		wantCode(t, "SolveByClass", impl.ErrState, impl.SolveByClass, none, instance("3"), class)
	}
}

func TestLargeArgumentsOfGadgets(t *testing.T) {
	long := make([]int64, 900000)
	many := impl.Gadgets{Formulas: slices.Repeat([]impl.Formula{formula("2 2 =:01")}, 200000)}
	wide := impl.Gadgets{Formulas: []impl.Formula{{Free: 2, Vars: 2, Atoms: slices.Repeat([]impl.Atom{{Rel: -1, Args: []int64{0, 1}}}, 200000)}}}
	deep := impl.Gadgets{Formulas: []impl.Formula{{Free: 2, Vars: 2, Atoms: []impl.Atom{{Rel: 0, Args: long}}}}}
	for _, g := range []impl.Gadgets{many, wide, deep} {
		same(t, "ValidGadgets", impl.ValidGadgets(equality(), swap(), g), false)
		same(t, "SameGadgets", impl.SameGadgets(g, g), true)
		same(t, "SameGadgets", impl.SameGadgets(g, impl.Gadgets{}), false)
		same(t, "GadgetsText", impl.GadgetsText(g), "")
		_, _, code := impl.ApplyGadgets(equality(), swap(), g, instance("2 0:01"))
		same(t, "ApplyGadgets", code, impl.ErrInvalid)
		_, code = impl.ComposeGadgets(equality(), swap(), swap(), gadgets("2 3 R0:02 R0:21"), g)
		same(t, "ComposeGadgets", code, impl.ErrInvalid)
	}
	g := gadgets("2 3 R0:02 R0:21")
	_, code := impl.CarryForth(equality(), swap(), g, instance("2 0:01"), long)
	same(t, "CarryForth", code, impl.ErrRange)
	_, code = impl.CarryBack(equality(), swap(), g, instance("2 0:01"), long)
	same(t, "CarryBack", code, impl.ErrRange)
	_, code = impl.EquationsOver(impl.Rel{Arity: 2, Tuples: slices.Repeat([][]int64{{0, 1}}, 300000)})
	same(t, "EquationsOver", code, impl.ErrInvalid)
	_, code = impl.EquationsOver(impl.Rel{Arity: 900000, Tuples: [][]int64{long}})
	same(t, "EquationsOver", code, impl.ErrInvalid)
	// many values fit, but the last variables tell that none does
	none := template(t, "4/1/2 00 11 22 33")
	odd := gadgets("1 8 R1:12 R1:34 R1:56 R0:7")
	same(t, "ValidGadgets", impl.ValidGadgets(template(t, "4/1"), none, odd), true)
}

func TestGadgetsAtTheSameTime(t *testing.T) {
	// many calls at once have the results of one call
	g := gadgets("2 3 R0:02 R0:21")
	var group sync.WaitGroup
	got := make([]string, 40)
	for i := range got {
		group.Go(func() {
			y, places, _ := impl.ApplyGadgets(equality(), swap(), g, instance("4 0:01 0:12 0:23"))
			forth, _ := impl.CarryForth(equality(), swap(), g, instance("4 0:01 0:12 0:23"), []int64{1, 1, 1, 1})
			pairs, _ := impl.SolveByClass(swap(), y, impl.ClMajority)
			words, _ := impl.SolveByClass(swap(), y, impl.ClMinority)
			arcs, _ := impl.SolveByClass(order(), instance("3 0:01 0:12"), impl.ClOr)
			got[i] = fmt.Sprint(y, places, forth, pairs, words, arcs)
		})
	}
	group.Wait()
	want := "{7 [{0 [0 4]} {0 [4 1]} {0 [1 5]} {0 [5 2]} {0 [2 6]} {0 [6 3]}]} [0 1 2 3] [1 1 1 1 0 0 0] [0 0 0 0 1 1 1] [1 1 1 1 0 0 0] [1 1 1]"
	for _, text := range got {
		same(t, "results", text, want)
	}
}
