package tests

import (
	"fmt"
	"math"
	"math/rand/v2"
	"slices"
	"testing"

	"loop.example/g01085/impl"
)

// appliedBy returns what ApplyGadgets has to return, by the definition.
func appliedBy(g impl.Gadgets, y impl.Instance) []any {
	var stands []int64
	addVariable := func() int64 {
		stands = append(stands, int64(len(stands)))
		return int64(len(stands)) - 1
	}
	for range y.Vars {
		addVariable()
	}
	var atoms []impl.Atom
	for _, c := range y.Cons {
		f, to := g.Formulas[c.Rel], slices.Clone(c.Scope)
		for range f.Vars - f.Free {
			to = append(to, addVariable())
		}
		for _, a := range f.Atoms {
			atoms = append(atoms, impl.Atom{Rel: a.Rel, Args: at(to, a.Args)})
		}
	}
	for _, a := range atoms {
		if a.Rel == impl.EqualAtom {
			one, other := stands[a.Args[0]], stands[a.Args[1]]
			for variable, stand := range stands {
				if stand == max(one, other) {
					stands[variable] = min(one, other)
				}
			}
		}
	}
	left := valuesOf(stands)
	for variable, stand := range stands {
		stands[variable] = int64(slices.Index(left, stand))
	}
	z := impl.Instance{Vars: int64(len(left))}
	for _, a := range atoms {
		if a.Rel != impl.EqualAtom {
			z.Cons = append(z.Cons, impl.Con{Rel: a.Rel, Scope: at(stands, a.Args)})
		}
	}
	if z.Vars > 10 || len(z.Cons) > 24 {
		return []any{impl.Instance{}, "[]", impl.ErrLimit}
	}
	return []any{z, stands[:y.Vars], 0}
}

// valuesOf returns the different numbers of a list, in ascending order.
func valuesOf(list []int64) []int64 { return slices.Compact(slices.Sorted(slices.Values(list))) }

// checkApplied compares the instance in which relations are replaced with the
// definition, and returns it, with what stands for the variables.
func checkApplied(t *testing.T, x, u impl.Template, g impl.Gadgets, y impl.Instance) (impl.Instance, []int64, bool) {
	t.Helper()
	wantCall(t, "ApplyGadgets", appliedBy(g, y), impl.ApplyGadgets, roomyTemplate(x), roomyTemplate(u), roomyGadgets(g), roomyInstance(y))
	z, places, code := impl.ApplyGadgets(x, u, g, y)
	if code == impl.OK && !impl.ValidInstance(u, z) {
		t.Errorf("ApplyGadgets to %s: %s is not valid", shortOf(y), shortOf(z))
	}
	return z, places, code == impl.OK
}

// carriedBy returns what CarryForth has to return for a solution: the first one
// of some solutions that has its values.
func carriedBy(solutions [][]int64, places, values []int64) []int64 {
	for _, solution := range solutions {
		if slices.Equal(at(solution, places), values) {
			return solution
		}
	}
	return nil
}

// carriedForth returns what CarryForth has to return.
func carriedForth(before, behind [][]int64, places, values []int64) []any {
	if !slices.ContainsFunc(before, func(solution []int64) bool { return slices.Equal(solution, values) }) {
		return []any{"[]", impl.ErrState}
	}
	return []any{carriedBy(behind, places, values), 0}
}

// carriedBack returns what CarryBack has to return.
func carriedBack(behind [][]int64, places, values []int64) []any {
	if !slices.ContainsFunc(behind, func(solution []int64) bool { return slices.Equal(solution, values) }) {
		return []any{"[]", impl.ErrState}
	}
	return []any{at(values, places), 0}
}

// checkCarried carries all values forth and back, solutions and others, and
// reports whether there are solutions.
func checkCarried(t *testing.T, x, u impl.Template, g impl.Gadgets, y impl.Instance) bool {
	t.Helper()
	z, places, ok := checkApplied(t, x, u, g, y)
	if !ok || math.Pow(float64(u.Size), float64(z.Vars)) > 1100 {
		return false
	}
	before, behind := solutionsBy(x, y), solutionsBy(u, z)
	same(t, "there is a solution", len(behind) > 0, len(before) > 0)
	for i, values := range listsOf(x.Size, y.Vars) {
		want := carriedForth(before, behind, places, values)
		if i%20 == 0 {
			wantCall(t, "CarryForth", want, impl.CarryForth, roomyTemplate(x), roomyTemplate(u), roomyGadgets(g), roomyInstance(y), roomyList(values...))
		}
		carried, code := impl.CarryForth(x, u, g, y, values)
		same(t, fmt.Sprint("CarryForth to ", shortOf(z)), []any{carried, code}, want)
		if code == impl.OK {
			back, _ := impl.CarryBack(x, u, g, y, carried)
			same(t, "carried forth and back", back, values)
		}
	}
	for i, values := range listsOf(u.Size, z.Vars) {
		want := carriedBack(behind, places, values)
		if i%20 == 0 {
			wantCall(t, "CarryBack", want, impl.CarryBack, roomyTemplate(x), roomyTemplate(u), roomyGadgets(g), roomyInstance(y), roomyList(values...))
		}
		if i%20 == 0 || want[1] == 0 {
			back, code := impl.CarryBack(x, u, g, y, values)
			same(t, fmt.Sprint("CarryBack from ", shortOf(z)), []any{back, code}, want)
			same(t, "what is carried back is a solution", code != impl.OK || failingBy(x, y, back) < 0, true)
		}
	}
	return len(before) > 0
}

func TestApplyingByDefinition(t *testing.T) {
	source := rand.New(rand.NewPCG(92, 9))
	solvable, others := 0, 0
	eachGadgets(92, func(x, u impl.Template, g impl.Gadgets) {
		for range 6 {
			y := randomInstance(source, x, 1+source.Int64N(4), source.IntN(4))
			if checkCarried(t, x, u, g, y) {
				solvable++
			} else {
				others++
			}
			checkApplied(t, x, u, g, randomInstance(source, x, 1+source.Int64N(10), source.IntN(25)))
		}
	})
	if solvable < 80 || others < 80 {
		t.Errorf("only %d instances have solutions, and %d have none", solvable, others)
	}
}

// TestManyEqualities has formulas of nearly nothing but EqualAtom.
func TestManyEqualities(t *testing.T) {
	source := rand.New(rand.NewPCG(93, 9))
	counts := map[int64]int{}
	for range 400 {
		u := graph(1+source.Int64N(3), []int64{0, 0})
		var g impl.Gadgets
		for range 1 + source.IntN(3) {
			free := 1 + source.Int64N(4)
			f := impl.Formula{Free: free, Vars: free + source.Int64N(4)}
			for range source.IntN(6) {
				a := impl.Atom{Rel: impl.EqualAtom, Args: []int64{source.Int64N(f.Vars), source.Int64N(f.Vars)}}
				if source.IntN(6) == 0 {
					a.Rel = 0
				}
				f.Atoms = append(f.Atoms, a)
			}
			g.Formulas = append(g.Formulas, f)
		}
		x := madeBy(u, g)
		z, _, ok := checkApplied(t, x, u, g, randomInstance(source, x, 1+source.Int64N(10), source.IntN(8)))
		if ok {
			counts[z.Vars]++
		}
	}
	for vars := int64(1); vars <= 10; vars++ {
		if counts[vars] < 5 {
			t.Errorf("only %d instances have %d variables", counts[vars], vars)
		}
	}
}

// wantApplied checks the instance in which a formula replaces the relation of a
// template of values of it, and what stands for its variables.
func wantApplied(t *testing.T, f, before, behind, places string) {
	t.Helper()
	u, g := example(), gadgets(f)
	x := madeBy(u, g)
	z, to, code := impl.ApplyGadgets(x, u, g, instance(before))
	same(t, fmt.Sprint("ApplyGadgets with ", f, " to ", before), []any{shortOf(z), to, code}, []any{behind, "[" + places + "]", 0})
	checkCarried(t, x, u, g, instance(before))
}

func TestAppliedFormulas(t *testing.T) {
	// no constraints
	wantApplied(t, "2 2 R0:01", "1", "1", "0")
	wantApplied(t, "2 8 =:07", "10", "10", "0 1 2 3 4 5 6 7 8 9")
	// no atoms, with and without bound variables
	wantApplied(t, "2 2", "2 0:01 0:10", "2", "0 1")
	wantApplied(t, "1 3", "2 0:0 0:1", "6", "0 1")
	wantApplied(t, "1 8", "1 0:0", "8", "0")
	// no bound variables
	wantApplied(t, "2 2 R0:01 R1:1", "3 0:12 0:20", "3 0:12 1:2 0:20 1:0", "0 1 2")
	wantApplied(t, "2 2 R0:10", "3 0:12 0:20", "3 0:21 0:02", "0 1 2")
	// bound ones lie behind all that there are
	wantApplied(t, "2 3 R0:02 R0:21", "2 0:01 0:10", "4 0:02 0:21 0:13 0:30", "0 1")
	wantApplied(t, "1 4 R0:32 R0:21 R0:10", "3 0:2 0:0", "9 0:54 0:43 0:32 0:87 0:76 0:60", "0 1 2")
	wantApplied(t, "2 4 R1:3 R0:02", "2 0:00 0:11", "6 1:3 0:02 1:5 0:14", "0 1")
	// a scope with a variable several times
	wantApplied(t, "2 3 R0:02 R0:21", "2 0:11", "3 0:12 0:21", "0 1")
	wantApplied(t, "3 3 R0:01 R0:12", "2 0:101", "2 0:10 0:01", "0 1")
	// what comes several times, stays so
	wantApplied(t, "2 2 R0:01 R0:01", "2 0:01 0:01", "2"+repeated(" 0:01", 4), "0 1")
}

func TestVariablesThatBecomeOne(t *testing.T) {
	// two free variables
	wantApplied(t, "2 2 =:01", "3 0:01", "2", "0 0 1")
	wantApplied(t, "2 2 =:10", "3 0:01", "2", "0 0 1")
	wantApplied(t, "2 2 =:01", "3 0:21", "2", "0 1 1")
	wantApplied(t, "2 2 =:01", "3 0:20", "2", "0 1 0")
	wantApplied(t, "2 2 =:01 R0:01", "3 0:12", "2 0:11", "0 1 1")
	wantApplied(t, "2 2 R1:1 =:01 R1:0", "3 0:12", "2 1:1 1:1", "0 1 1")
	// a free one and a bound one, in both orders
	wantApplied(t, "2 3 =:12 R0:02", "2 0:01", "2 0:01", "0 1")
	wantApplied(t, "2 3 R0:02 =:21", "2 0:01", "2 0:01", "0 1")
	wantApplied(t, "2 3 =:02 =:12 R1:2", "3 0:21", "2 1:1", "0 1 1")
	// two bound ones
	wantApplied(t, "1 3 =:12 R0:01 R0:02", "1 0:0", "2 0:01 0:01", "0")
	wantApplied(t, "1 4 =:32 R0:01 R0:03 R1:2", "1 0:0", "3 0:01 0:02 1:2", "0")
	wantApplied(t, "1 4 =:31 R0:01 R0:02 R0:23", "2 0:1", "4 0:12 0:13 0:32", "0 1")
	// one and itself
	wantApplied(t, "1 1 =:00", "2 0:1", "2", "0 1")
	wantApplied(t, "1 2 =:11 R0:01", "1 0:0", "2 0:01", "0")
	wantApplied(t, "2 2 =:01", "2 0:11", "2", "0 1")
	// a ring of free ones, and of bound ones
	wantApplied(t, "3 3 =:01 =:12 =:20", "4 0:123", "2", "0 1 1 1")
	wantApplied(t, "3 3 =:21 =:10 =:02", "5 0:431", "3", "0 1 2 1 1")
	wantApplied(t, "1 4 =:12 =:23 =:31 R0:03", "1 0:0", "2 0:01", "0")
	wantApplied(t, "1 5 =:43 =:32 =:21 =:14 R0:04 R1:2", "1 0:0", "2 0:01 1:1", "0")
	wantApplied(t, "2 2 =:01", "4 0:12 0:23 0:31", "2", "0 1 1 1")
	// variables that are one already, by a scope, or by atoms before
	wantApplied(t, "2 3 =:02 =:12 R0:02", "2 0:11", "2 0:11", "0 1")
	wantApplied(t, "2 2 =:01 =:10 =:01", "3 0:12", "2", "0 1 1")
	wantApplied(t, "4 4 =:01 =:12 =:23 =:30", "3 0:2121", "2", "0 1 1")
	wantApplied(t, "4 4 =:02 =:13", "3 0:2121", "3", "0 1 2")
	wantApplied(t, "4 4 =:01 =:23 =:12", "5 0:4321", "2", "0 1 1 1 1")
	// several that become one, of which the least stays, whatever the order
	wantApplied(t, "2 2 =:01", "5 0:43 0:32 0:21", "2", "0 1 1 1 1")
	wantApplied(t, "2 2 =:01", "5 0:12 0:23 0:34", "2", "0 1 1 1 1")
	wantApplied(t, "2 2 =:01", "5 0:14 0:24 0:34", "2", "0 1 1 1 1")
	wantApplied(t, "2 2 =:01", "5 0:34 0:12 0:42", "2", "0 1 1 1 1")
	wantApplied(t, "2 2 =:10", "6 0:45 0:23 0:53 0:31", "2", "0 1 1 1 1 1")
	wantApplied(t, "2 2 =:01", "6 0:50 0:41 0:52", "3", "0 1 0 2 1 0")
	wantApplied(t, "2 3 =:12 =:02", "3 0:21 0:10", "1", "0 0 0")
	// what is left gets new numbers, also behind constraints that come later
	wantApplied(t, "2 3 =:01 R0:12", "4 0:13 0:02", "4 0:12 0:03", "0 1 0 1")
	wantApplied(t, "3 4 =:02 R0:13", "4 0:123 0:012", "4 0:02 0:13", "0 1 0 1")
	wantApplied(t, "3 4 =:02 R0:13", "5 0:234 0:032", "5 0:23 0:24", "0 1 0 2 0")
}

// wantLimit checks whether an instance becomes too large when a formula replaces
// the relation of a template of values of it.
func wantLimit(t *testing.T, want int64, before string, shorts ...string) {
	t.Helper()
	u, g := example(), gadgets(shorts...)
	x, y := madeBy(u, g), instance(before)
	wantCode(t, "ApplyGadgets", want, impl.ApplyGadgets, x, u, g, y)
	checkApplied(t, x, u, g, y)
	values, code := impl.FirstSolution(x, y)
	if code == impl.OK {
		wantCode(t, "CarryForth", want, impl.CarryForth, x, u, g, y, values)
	}
}

func TestLimitOfVariables(t *testing.T) {
	// bound variables that are left
	for cons := range 24 {
		want := map[bool]int64{true: impl.OK, false: impl.ErrLimit}
		wantLimit(t, want[1+cons <= 10], "1"+repeated(" 0:0", cons), "1 2")
		wantLimit(t, want[1+2*cons <= 10], "1"+repeated(" 0:0", cons), "1 3 R0:12")
		wantLimit(t, want[3+7*cons <= 10], "3"+repeated(" 0:2", cons), "1 8")
	}
	// as many as there can be, all of which become one
	rest := " =:12 =:23 =:34 =:45 =:56 =:67"
	wantLimit(t, impl.OK, "10"+repeated(" 0:9", 24), "1 8 =:01"+rest)
	wantLimit(t, impl.OK, "10"+repeated(" 0:9", 24), "1 8 =:70 =:31 =:76 =:12 =:64 =:25 =:54")
	wantLimit(t, impl.ErrLimit, "10"+repeated(" 0:9", 24), "1 8"+rest)
	// exactly as many as there can be, and one more, where variables have become one
	wantLimit(t, impl.OK, "4"+repeated(" 0:3", 6), "1 8"+rest)
	wantLimit(t, impl.ErrLimit, "4"+repeated(" 0:3", 7), "1 8"+rest)
	wantLimit(t, impl.OK, "10 0:01 0:12", "2 3 =:01")
	wantLimit(t, impl.ErrLimit, "10 0:01 0:10", "2 3 =:01")
	wantLimit(t, impl.ErrLimit, "10 0:01 0:11", "2 3 =:01")
	wantLimit(t, impl.OK, "10 0:01 0:11", "2 3 =:02")
	wantLimit(t, impl.OK, "10 1:01 0:0", "1 2", "2 2 =:01")
	wantLimit(t, impl.ErrLimit, "10 0:0 0:1 1:01", "1 2", "2 2 =:01")
	wantLimit(t, impl.OK, "10 0:0 0:1 1:01 1:98", "1 2", "2 2 =:01")
}

func TestLimitOfConstraints(t *testing.T) {
	wantLimit(t, impl.OK, "10"+repeated(" 0:01", 24), "2 2 R0:01")
	wantLimit(t, impl.OK, "1"+repeated(" 0:0", 12), "1 1 R1:0 R1:0")
	wantLimit(t, impl.ErrLimit, "1"+repeated(" 0:0", 13), "1 1 R1:0 R1:0")
	wantLimit(t, impl.OK, "1"+repeated(" 0:0", 6), "1 1"+repeated(" R1:0", 4))
	wantLimit(t, impl.ErrLimit, "1"+repeated(" 0:0", 5), "1 1"+repeated(" R1:0", 5))
	wantLimit(t, impl.OK, "1"+repeated(" 0:0", 22)+" 1:0", "1 1 R1:0", "1 1 R1:0 R1:0")
	wantLimit(t, impl.ErrLimit, "1"+repeated(" 0:0", 22)+" 1:0 0:0", "1 1 R1:0", "1 1 R1:0 R1:0")
	wantLimit(t, impl.ErrLimit, "1"+repeated(" 0:0", 23)+" 1:0", "1 1 R1:0", "1 1 R1:0 R1:0")
	wantLimit(t, impl.ErrLimit, "1"+repeated(" 0:0", 24), "1 1"+repeated(" R1:0", 16))
	// EqualAtom gives none
	wantLimit(t, impl.OK, "2"+repeated(" 0:01", 24), "2 2"+repeated(" =:01", 16))
	wantLimit(t, impl.OK, "2"+repeated(" 0:01", 24), "2 2 R1:0"+repeated(" =:01", 15))
	wantLimit(t, impl.ErrLimit, "2"+repeated(" 0:01", 24), "2 2 R1:0 R1:1"+repeated(" =:01", 14))
	// constraints that have become equal are still two
	wantLimit(t, impl.OK, "2"+repeated(" 0:01", 12), "2 2 =:01 R1:0 R1:1")
	wantLimit(t, impl.ErrLimit, "2"+repeated(" 0:01", 13), "2 2 =:01 R1:0 R1:1")
	wantLimit(t, impl.ErrLimit, "2"+repeated(" 0:00", 13), "2 2 =:01 R0:00 R0:00")
	// both too many
	wantLimit(t, impl.ErrLimit, "1"+repeated(" 0:0", 24), "1 8"+repeated(" R1:7", 16))
}

// wantForth checks to which solution values are carried forth, with a formula
// for the relation of a template of values of it.
func wantForth(t *testing.T, u impl.Template, f, before string, values []int64, want string) {
	t.Helper()
	g := gadgets(f)
	x, y := madeBy(u, g), instance(before)
	wantCall(t, "CarryForth", []any{want, 0}, impl.CarryForth, x, u, g, y, values)
	carried, _ := impl.CarryForth(x, u, g, y, values)
	wantCall(t, "CarryBack", []any{values, 0}, impl.CarryBack, x, u, g, y, carried)
}

func TestCarryForth(t *testing.T) {
	// the first one of several solutions, in the order of lists
	wantForth(t, swap(), "1 3", "1 0:0", []int64{1}, "[1 0 0]")
	wantForth(t, swap(), "1 3 R0:12", "1 0:0", []int64{1}, "[1 0 1]")
	wantForth(t, swap(), "1 3 R0:12", "2 0:0 0:1", []int64{1, 0}, "[1 0 0 1 0 1]")
	wantForth(t, swap(), "1 3 R0:12 R0:20", "1 0:0", []int64{1}, "[1 1 0]")
	wantForth(t, less(), "2 3 R0:02 R0:21", "2 0:01", []int64{0, 3}, "[0 3 1]")
	wantForth(t, less(), "2 4 R0:02 R0:21 R0:23", "2 0:01", []int64{0, 3}, "[0 3 1 2]")
	wantForth(t, less(), "2 4 R0:02 R0:32 R0:21", "2 0:01", []int64{1, 3}, "[1 3 2 0]")
	wantForth(t, less(), "1 8 R0:76 R0:65", "1 0:0", []int64{3}, "[3 0 0 0 0 2 1 0]")
	// without further variables
	wantForth(t, swap(), "2 2 R0:01", "2 0:01", []int64{1, 0}, "[1 0]")
	wantForth(t, swap(), "2 2", "1", []int64{1}, "[1]")
	wantForth(t, impl.Template{Size: 4}, "1 1", "10", []int64{3, 2, 1, 0, 3, 2, 1, 0, 3, 2}, "[3 2 1 0 3 2 1 0 3 2]")
	// variables that have become one
	wantForth(t, swap(), "2 3 =:01 R0:12", "4 0:13 0:02", []int64{1, 0, 1, 0}, "[1 0 1 0]")
	wantForth(t, swap(), "2 3 =:01 R0:12", "3 0:21", []int64{0, 1, 1}, "[0 1 0]")
	wantForth(t, swap(), "2 2 =:01", "5 0:43 0:32 0:21", []int64{0, 1, 1, 1, 1}, "[0 1]")
	wantForth(t, swap(), "2 2 =:01", "3 0:12", []int64{1, 0, 0}, "[1 0]")
	wantForth(t, swap(), "2 4 =:12 R0:03", "2 0:10", []int64{1, 0}, "[1 0 1]")
	// as many variables as there can be, each with all values but the first ones
	last := graph(4, []int64{3, 3})
	wantForth(t, last, "1 8 R0:12 R0:34 R0:56 R0:77", "3 0:2", []int64{3, 0, 1}, "[3 0 1 3 3 3 3 3 3 3]")
	wantForth(t, last, "1 8 R0:77", "3 0:2", []int64{3, 0, 1}, "[3 0 1 0 0 0 0 0 0 3]")
}

// lists that are no values of two variables of the size 2.
func notTwoValues() [][]int64 {
	lists := [][]int64{nil, {}, {0}, {1}, {0, 0, 0}, {0, 1, 0}, {0, 2}, {2, 0}, {2, 2}, {0, -1}, {1, 1, 0, 0}}
	for _, value := range farAway {
		lists = append(lists, []int64{0, value}, []int64{value, 1}, []int64{value})
	}
	return lists
}

func TestErrorsOfCarryForth(t *testing.T) {
	g := gadgets("2 3 R0:02 R0:21")
	many := instance("2" + repeated(" 0:01", 9)) // of which ApplyGadgets makes 11 variables
	wantCode(t, "ApplyGadgets", impl.ErrLimit, impl.ApplyGadgets, equality(), swap(), g, many)
	for _, y := range []impl.Instance{instance("2"), instance("2 0:01"), many} {
		for _, values := range notTwoValues() {
			wantCode(t, "CarryForth", impl.ErrRange, impl.CarryForth, equality(), swap(), g, y, values)
		}
	}
	for _, values := range [][]int64{{0, 1}, {1, 0}} {
		wantCall(t, "CarryForth", []any{values, 0}, impl.CarryForth, equality(), swap(), g, instance("2"), values)
		wantCode(t, "CarryForth", impl.ErrState, impl.CarryForth, equality(), swap(), g, instance("2 0:01"), values)
		wantCode(t, "CarryForth", impl.ErrState, impl.CarryForth, equality(), swap(), g, many, values)
	}
	for _, values := range [][]int64{{0, 0}, {1, 1}} {
		wantCall(t, "CarryForth", []any{append(slices.Clone(values), 1-values[0]), 0}, impl.CarryForth, equality(), swap(), g, instance("2 0:01"), values)
		wantCode(t, "CarryForth", impl.ErrLimit, impl.CarryForth, equality(), swap(), g, many, values)
	}
	// an instance of x that has no solution
	none := template(t, "2/1")
	for value := range int64(2) {
		wantCode(t, "CarryForth", impl.ErrState, impl.CarryForth, none, swap(), gadgets("1 1 R0:00"), instance("1 0:0"), []int64{value})
	}
}

func TestErrorsOfCarryBack(t *testing.T) {
	g := gadgets("2 3 R0:02 R0:21")
	// variables that have become one count once
	merged := gadgets("2 4 =:02 =:13 R0:23")
	for _, values := range notTwoValues() {
		wantCode(t, "CarryBack", impl.ErrRange, impl.CarryBack, swap(), swap(), merged, instance("2 0:01"), values)
	}
	wantCode(t, "CarryBack", impl.ErrState, impl.CarryBack, swap(), swap(), merged, instance("2 0:01"), []int64{1, 1})
	wantCall(t, "CarryBack", []any{"[1 0]", 0}, impl.CarryBack, swap(), swap(), merged, instance("2 0:01"), []int64{1, 0})
	wantCall(t, "CarryBack", []any{"[0 1 0 1 1]", 0}, impl.CarryBack, equality(), swap(), gadgets("2 2 =:01"), instance("5 0:20 0:34 0:13"), []int64{0, 1})
	// as many values as the instance of u has variables, and not as that of t has
	y := instance("2 0:01")
	for _, values := range [][]int64{{0, 0}, {1, 1}, {0, 0, 1, 0}, {}, nil, {0, 0, 2}, {0, -1, 1}, {3, 3, 3}} {
		wantCode(t, "CarryBack", impl.ErrRange, impl.CarryBack, equality(), swap(), g, y, values)
	}
	for _, values := range listsOf(2, 3) {
		if values[0] == values[1] && values[0] != values[2] {
			wantCall(t, "CarryBack", []any{values[:2], 0}, impl.CarryBack, equality(), swap(), g, y, values)
		} else {
			wantCode(t, "CarryBack", impl.ErrState, impl.CarryBack, equality(), swap(), g, y, values)
		}
	}
	// the limit comes first
	many := instance("2" + repeated(" 0:01", 9))
	for _, values := range append(notTwoValues(), []int64{0, 0}, []int64{0, 1}, []int64{0, 0, 1}, make([]int64, 11), []int64{0, 0, 1, 1, 1, 1, 1, 1, 1, 1, 1}) {
		wantCode(t, "CarryBack", impl.ErrLimit, impl.CarryBack, equality(), swap(), g, many, values)
	}
}

// invalidGadgetCalls calls all functions of instances with templates, gadgets or
// an instance that are not valid, and with arguments that would have other errors,
// too.
func invalidGadgetCalls(t *testing.T, x, u impl.Template, g impl.Gadgets, y impl.Instance) {
	t.Helper()
	wantCode(t, "ApplyGadgets", impl.ErrInvalid, impl.ApplyGadgets, x, u, g, y)
	for _, values := range [][]int64{nil, {0}, {0, 0}, {0, 1}, {1, 1, 0}, {9}, {-1, 0}} {
		wantCode(t, "CarryForth", impl.ErrInvalid, impl.CarryForth, x, u, g, y, values)
		wantCode(t, "CarryBack", impl.ErrInvalid, impl.CarryBack, x, u, g, y, values)
	}
}

func TestInvalidArgumentsOfApplying(t *testing.T) {
	g := gadgets("2 3 R0:02 R0:21")
	many := instance("2" + repeated(" 0:01", 9))
	for _, y := range []impl.Instance{instance("1"), instance("2 0:01"), many} {
		for _, bad := range badTemplates() {
			invalidGadgetCalls(t, bad, swap(), g, y)
			invalidGadgetCalls(t, equality(), bad, gadgets("2 2 =:01"), y)
			invalidGadgetCalls(t, bad, bad, impl.Gadgets{}, y)
		}
		for _, bad := range []impl.Gadgets{{}, gadgets("2 2"), gadgets("2 2 R0:01"), gadgets("2 3 R0:02 R0:20"), gadgets("2 3 R1:02 R1:21"), gadgets("1 3 R0:02 R0:21"), gadgets("2 9 R0:02 R0:21"), gadgets("2 3 R0:02 R0:21", "2 3 R0:02 R0:21"), {Formulas: []impl.Formula{{}}}} {
			invalidGadgetCalls(t, equality(), swap(), bad, y)
		}
		invalidGadgetCalls(t, equality(), impl.Template{Size: 3}, gadgets("2 2 =:01"), y)
		invalidGadgetCalls(t, impl.Template{Size: 1, Rels: []impl.Rel{{Arity: 2, Tuples: [][]int64{{0, 0}}}}}, swap(), gadgets("2 2 =:01"), y)
	}
	own, _ := impl.OwnGadgets(mixed())
	for _, bad := range badInstances() {
		invalidGadgetCalls(t, mixed(), mixed(), own, bad)
	}
	// an instance of the other template
	for _, short := range []string{"2 1:01", "2 0:0", "2 0:010", "1 0:01"} {
		invalidGadgetCalls(t, equality(), example(), g, instance(short))
	}
	invalidGadgetCalls(t, impl.Template{Size: 2}, swap(), impl.Gadgets{}, instance("2 0:01"))
}
