package tests

import (
	"fmt"
	"math"
	"math/rand/v2"
	"slices"
	"sync"
	"testing"

	"loop.example/g01085/impl"
)

// wantInstance calls a function that makes an instance, and checks which, or the
// code.
func wantInstance(t *testing.T, name string, want made, f any, args ...any) impl.Instance {
	t.Helper()
	results := call(t, f, args...)
	got := results[0].(impl.Instance)
	if code := results[1].(int64); code != want.code || code == impl.OK && shortOf(got) != want.want {
		t.Errorf("%s of %v: got %s %d, want %s %d", name, args, shortOf(got), code, want.want, want.code)
	}
	return got
}

func TestRestrictInstance(t *testing.T) {
	x := "5 0:01 1:2 2:340 0:01 3:4321"
	for _, c := range []struct {
		keep []int64
		want string
	}{
		{nil, "5"}, {[]int64{}, "5"}, {[]int64{0}, "5 0:01"}, {[]int64{4}, "5 3:4321"}, {[]int64{1, 3}, "5 1:2 0:01"}, {[]int64{0, 2, 4}, "5 0:01 2:340 3:4321"},
		{[]int64{1, 2, 3, 4}, "5 1:2 2:340 0:01 3:4321"}, {[]int64{0, 1, 2, 3}, "5 0:01 1:2 2:340 0:01"}, {[]int64{0, 1, 2, 3, 4}, x},
	} {
		wantInstance(t, "RestrictInstance", fine(c.want), impl.RestrictInstance, roomyTemplate(mixed()), roomyInstance(instance(x)), roomyList(c.keep...))
	}
	for _, keep := range [][]int64{
		{0, 0}, {1, 0}, {4, 3}, {0, 2, 1}, {0, 1, 1}, {3, 3, 4}, {5}, {-1}, {-1, 0}, {0, 5}, {4, 5}, {5, 0}, {0, 1, 2, 3, 4, 5}, {0, 1, 2, 3, 4, 4}, {0, 4, 2}, {0, math.MaxInt64}, {math.MinInt64, 0}, {math.MaxInt64}, {1000},
	} {
		wantInstance(t, "RestrictInstance", wrong(impl.ErrRange), impl.RestrictInstance, mixed(), instance(x), keep)
	}
	wantInstance(t, "RestrictInstance", fine("3"), impl.RestrictInstance, mixed(), instance("3"), nil)
	wantInstance(t, "RestrictInstance", wrong(impl.ErrRange), impl.RestrictInstance, mixed(), instance("3"), []int64{0})
	most := "10" + repeated(" 0:98", 24)
	var all []int64
	for con := range int64(24) {
		all = append(all, con)
	}
	wantInstance(t, "RestrictInstance", fine(most), impl.RestrictInstance, mixed(), instance(most), all)
	wantInstance(t, "RestrictInstance", fine("10 0:98 0:98"), impl.RestrictInstance, mixed(), instance(most), []int64{0, 23})
	wantInstance(t, "RestrictInstance", wrong(impl.ErrRange), impl.RestrictInstance, mixed(), instance(most), append(all, 24))
}

func TestMergeVariables(t *testing.T) {
	x := "5 0:01 0:34 1:2 2:240 3:4321"
	for _, c := range []struct {
		a, b int64
		want string
	}{
		// neighbours
		{0, 1, "4 0:00 0:23 1:1 2:130 3:3210"}, {1, 2, "4 0:01 0:23 1:1 2:130 3:3211"}, {2, 3, "4 0:01 0:23 1:2 2:230 3:3221"}, {3, 4, "4 0:01 0:33 1:2 2:230 3:3321"},
		{0, 2, "4 0:01 0:23 1:0 2:030 3:3201"}, {1, 3, "4 0:01 0:13 1:2 2:230 3:3121"}, {2, 4, "4 0:01 0:32 1:2 2:220 3:2321"},
		{0, 3, "4 0:01 0:03 1:2 2:230 3:3021"}, {1, 4, "4 0:01 0:31 1:2 2:210 3:1321"},
		// the first and the last one
		{0, 4, "4 0:01 0:30 1:2 2:200 3:0321"},
	} {
		wantInstance(t, "MergeVariables", fine(c.want), impl.MergeVariables, roomyTemplate(mixed()), roomyInstance(instance(x)), c.a, c.b)
		wantInstance(t, "MergeVariables", fine(c.want), impl.MergeVariables, roomyTemplate(mixed()), roomyInstance(instance(x)), c.b, c.a)
	}
	for variable := range int64(5) {
		wantInstance(t, "MergeVariables", wrong(impl.ErrRange), impl.MergeVariables, mixed(), instance(x), variable, variable)
		for _, other := range append([]int64{5, 9, 10, -5}, farAway...) {
			wantInstance(t, "MergeVariables", wrong(impl.ErrRange), impl.MergeVariables, mixed(), instance(x), variable, other)
			wantInstance(t, "MergeVariables", wrong(impl.ErrRange), impl.MergeVariables, mixed(), instance(x), other, variable)
			wantInstance(t, "MergeVariables", wrong(impl.ErrRange), impl.MergeVariables, mixed(), instance(x), other, other)
		}
	}
	// equal constraints stay, and so do those that have become equal
	wantInstance(t, "MergeVariables", fine("1 0:00 0:00 1:0 1:0"), impl.MergeVariables, mixed(), instance("2 0:01 0:10 1:0 1:1"), 1, 0)
	wantInstance(t, "MergeVariables", fine("9"), impl.MergeVariables, mixed(), instance("10"), 9, 0)
	wantInstance(t, "MergeVariables", fine("9"+repeated(" 3:0780", 24)), impl.MergeVariables, mixed(), instance("10"+repeated(" 3:0789", 24)), 0, 9)
	wantInstance(t, "MergeVariables", wrong(impl.ErrRange), impl.MergeVariables, mixed(), instance("1"), 0, 1)
	wantInstance(t, "MergeVariables", wrong(impl.ErrRange), impl.MergeVariables, mixed(), instance("1 1:0"), 0, 0)
}

func TestSolutionsOfMergedVariables(t *testing.T) {
	source := rand.New(rand.NewPCG(51, 5))
	eachInstance(5, 300, func(x impl.Template, y impl.Instance) {
		if y.Vars == 1 {
			return
		}
		low := source.Int64N(y.Vars - 1)
		high := low + 1 + source.Int64N(y.Vars-1-low)
		merged, code := impl.MergeVariables(x, y, high, low)
		same(t, "MergeVariables", code, impl.OK)
		same(t, "ValidInstance", impl.ValidInstance(x, merged), true)
		var want [][]int64
		for _, values := range solutionsBy(x, y) {
			if values[low] == values[high] {
				want = append(want, slices.Delete(slices.Clone(values), int(high), int(high)+1))
			}
		}
		same(t, "solutions of the merged instance of "+shortOf(y), solutionsBy(x, merged), want)
		count, _ := impl.CountSolutions(x, merged)
		same(t, "CountSolutions", count, len(want))
	})
}

func TestSolutionsOfRestrictedInstances(t *testing.T) {
	source := rand.New(rand.NewPCG(52, 5))
	eachInstance(6, 300, func(x impl.Template, y impl.Instance) {
		var keep []int64
		for con := range y.Cons {
			if source.IntN(2) == 0 {
				keep = append(keep, int64(con))
			}
		}
		z, code := impl.RestrictInstance(x, y, keep)
		same(t, "RestrictInstance", code, impl.OK)
		for _, values := range solutionsBy(x, y) {
			wantCall(t, "IsSolution", []any{true, 0}, impl.IsSolution, x, z, values)
		}
	})
}

func TestInstanceFormula(t *testing.T) {
	x := "5 0:01 1:4 2:342 0:01 3:4321"
	for free := int64(1); free <= 4; free++ {
		want := fmt.Sprint(free, " 5 R0:01 R1:4 R2:342 R0:01 R3:4321")
		wantMade(t, "InstanceFormula", fine(want), impl.InstanceFormula, roomyTemplate(mixed()), roomyInstance(instance(x)), free)
	}
	for _, c := range []struct {
		x    string
		free int64
		want made
	}{
		{"1", 1, fine("1 1")}, {"4 0:32", 4, fine("4 4 R0:32")}, {"8", 4, fine("4 8")}, {"8 1:7", 1, fine("1 8 R1:7")},
		// free is none, or there are fewer variables
		{"1", 0, wrong(impl.ErrRange)}, {"1", -1, wrong(impl.ErrRange)}, {"5", 5, wrong(impl.ErrRange)}, {"8", 5, wrong(impl.ErrRange)}, {"10", 10, wrong(impl.ErrRange)},
		{"1", 2, wrong(impl.ErrRange)}, {"2", 3, wrong(impl.ErrRange)}, {"3", 4, wrong(impl.ErrRange)}, {"4", 5, wrong(impl.ErrRange)},
		{"3", math.MaxInt64, wrong(impl.ErrRange)}, {"3", math.MinInt64, wrong(impl.ErrRange)}, {"3", 1000, wrong(impl.ErrRange)},
		// MaxVars variables, MaxAtoms constraints, and one more
		{"9", 1, wrong(impl.ErrLimit)}, {"10", 4, wrong(impl.ErrLimit)}, {"9 1:0", 2, wrong(impl.ErrLimit)},
		{"8" + repeated(" 1:7", 16), 4, fine("4 8" + repeated(" R1:7", 16))}, {"1" + repeated(" 1:0", 17), 1, wrong(impl.ErrLimit)},
		{"8" + repeated(" 0:70", 24), 1, wrong(impl.ErrLimit)}, {"9" + repeated(" 0:70", 17), 1, wrong(impl.ErrLimit)},
		// the range comes first
		{"9", 0, wrong(impl.ErrRange)}, {"10", 5, wrong(impl.ErrRange)}, {"1" + repeated(" 1:0", 17), 2, wrong(impl.ErrRange)}, {"9" + repeated(" 0:70", 17), -1, wrong(impl.ErrRange)},
	} {
		wantMade(t, "InstanceFormula", c.want, impl.InstanceFormula, mixed(), instance(c.x), c.free)
	}
}

// beginnings returns the relation of the first values of lists.
func beginnings(size, free int64, lists [][]int64) impl.Rel {
	set := map[tupleKey]bool{}
	for _, list := range lists {
		set[keyOf(list[:free])] = true
	}
	return relWhere(size, free, func(tuple []int64) bool { return set[keyOf(tuple)] })
}

func TestValuesOfInstanceFormulas(t *testing.T) {
	eachInstance(7, 300, func(x impl.Template, y impl.Instance) {
		for free := int64(1); free <= min(4, y.Vars); free++ {
			f, code := impl.InstanceFormula(x, y, free)
			same(t, "InstanceFormula", code, impl.OK)
			wantValue(t, "InstanceFormula", beginnings(x.Size, free, solutionsBy(x, y)), x, f)
		}
	})
}

func TestInstanceOfFormula(t *testing.T) {
	for _, c := range []struct {
		f    string
		want made
	}{
		{"1 1", fine("1")}, {"4 4", fine("4")}, {"2 3 R0:02 R0:21", fine("3 0:02 0:21")}, {"4 8 R3:4567 R2:123", fine("8 3:4567 2:123")},
		// an EqualAtom that goes away
		{"2 3 R0:01 =:12", fine("2 0:01")}, {"2 3 =:12 R0:02", fine("2 0:01")}, {"1 3 =:21 =:10 R0:12", fine("1 0:00")}, {"2 2 =:00 R0:10", fine("2 0:10")}, {"1 1 =:00 =:00", fine("1")},
		{"2 4 =:02 R0:23 =:13", fine("2 0:01")}, {"3 5 =:43 R2:034", fine("4 2:033")},
		// those of two free variables stay
		{"2 2 =:01", wrong(impl.ErrState)}, {"2 2 =:10", wrong(impl.ErrState)}, {"4 4 R0:01 =:23", wrong(impl.ErrState)}, {"2 3 =:02 =:21", wrong(impl.ErrState)}, {"3 8 R0:01 R0:12 =:71 =:72", wrong(impl.ErrState)},
		// atoms that have come before, and variables in no atom, go away
		{"1 2 R0:01 R0:01 R0:10 R0:01", fine("2 0:01 0:10")}, {"1 8", fine("1")}, {"1 4 R0:31", fine("3 0:21")}, {"3 5 R1:4", fine("4 1:3")}, {"4 4 R1:3", fine("4 1:3")}, {"2 4 =:23 R0:13 R0:12", fine("3 0:12")},
		{"1 8 R3:0123 R3:4567" + repeated(" R1:0", 14), fine("8 3:0123 3:4567 1:0")},
		{"4 8 R0:01 R0:02 R0:03 R0:04 R0:05 R0:06 R0:07 R0:10 R0:20 R0:30 R0:40 R0:50 R0:60 R0:70 R0:12 R0:21", fine("8 0:01 0:02 0:03 0:04 0:05 0:06 0:07 0:10 0:20 0:30 0:40 0:50 0:60 0:70 0:12 0:21")},
	} {
		wantInstance(t, "InstanceOfFormula", c.want, impl.InstanceOfFormula, roomyTemplate(mixed()), roomyFormula(formula(c.f)))
	}
}

func TestInstancesOfFormulasByDefinition(t *testing.T) {
	counts := map[int64]int{}
	eachFormula(53, func(x impl.Template, f impl.Formula) {
		simple := simplifiedBy(f)
		y := impl.Instance{Vars: simple.Vars}
		want := made{"", impl.OK}
		for _, a := range simple.Atoms {
			if a.Rel == impl.EqualAtom {
				want.code = impl.ErrState
			}
			y.Cons = append(y.Cons, impl.Con{Rel: a.Rel, Scope: a.Args})
		}
		want.want = shortOf(y)
		counts[want.code]++
		got := wantInstance(t, "InstanceOfFormula", want, impl.InstanceOfFormula, roomyTemplate(x), roomyFormula(f))
		if want.code == impl.OK && math.Pow(float64(x.Size), float64(y.Vars)) <= 1024 {
			same(t, "ValidInstance", impl.ValidInstance(x, got), true)
			same(t, "solutions of "+short(f), beginnings(x.Size, f.Free, solutionsBy(x, got)), valueBy(x, f))
		}
	})
	if counts[impl.OK] < 50 || counts[impl.ErrState] < 10 {
		t.Errorf("too few formulas: %v", counts)
	}
}

func TestInstancesOfTheirFormulas(t *testing.T) {
	// all variables are in constraints, which are different
	for _, short := range []string{"1 1:0", "3 0:01 0:12", "4 3:3210", "5 2:342 0:10", "8 3:0123 3:7654", "2 0:01 0:10"} {
		f, code := impl.InstanceFormula(mixed(), instance(short), 1)
		same(t, "InstanceFormula", code, impl.OK)
		wantInstance(t, "InstanceOfFormula", fine(short), impl.InstanceOfFormula, mixed(), f)
	}
}

// invalidInstanceCalls calls all functions with a template or an instance that
// is not valid, and with arguments that would have other errors, too.
func invalidInstanceCalls(t *testing.T, x impl.Template, y impl.Instance) {
	t.Helper()
	for _, values := range [][]int64{nil, {0}, {0, 1}, {1, 0, 1}, {9}, {-1, 0}} {
		wantCode(t, "IsSolution", impl.ErrInvalid, impl.IsSolution, x, y, values)
		wantCode(t, "FirstFailing", impl.ErrInvalid, impl.FirstFailing, x, y, values)
		wantCode(t, "RestrictInstance", impl.ErrInvalid, impl.RestrictInstance, x, y, values)
	}
	wantCode(t, "FirstSolution", impl.ErrInvalid, impl.FirstSolution, x, y)
	wantCode(t, "AllSolutions", impl.ErrInvalid, impl.AllSolutions, x, y)
	wantCode(t, "CountSolutions", impl.ErrInvalid, impl.CountSolutions, x, y)
	wantCode(t, "FullDomains", impl.ErrInvalid, impl.FullDomains, x, y)
	for _, domains := range [][][]int64{nil, {{0}}, {{0, 1}, {0, 1}}, {{}, {}, {}}, {{9, 0}}} {
		wantCall(t, "ValidDomains", []any{false}, impl.ValidDomains, x, y, domains)
		wantCode(t, "MakeArcs", impl.ErrInvalid, impl.MakeArcs, x, y, domains)
		wantCode(t, "IsArcConsistent", impl.ErrInvalid, impl.IsArcConsistent, x, y, domains)
		wantCode(t, "ReplayArcs", impl.ErrInvalid, impl.ReplayArcs, x, y, domains, nil)
		wantCode(t, "ReplayArcs", impl.ErrInvalid, impl.ReplayArcs, x, y, domains, []impl.ArcStep{{Var: 0, Value: 0, Con: 0}, {Var: -1}})
	}
	wantCode(t, "FirstPairs", impl.ErrInvalid, impl.FirstPairs, x, y)
	wantCode(t, "MakePairs", impl.ErrInvalid, impl.MakePairs, x, y)
	wantCode(t, "ReplayPairs", impl.ErrInvalid, impl.ReplayPairs, x, y, nil)
	wantCode(t, "ReplayPairs", impl.ErrInvalid, impl.ReplayPairs, x, y, []impl.PairStep{{I: 0, J: 1, Through: 2}, {}})
	for _, number := range []int64{-1, 0, 1, 4, 9} {
		wantCode(t, "MergeVariables", impl.ErrInvalid, impl.MergeVariables, x, y, number, 0)
		wantCode(t, "MergeVariables", impl.ErrInvalid, impl.MergeVariables, x, y, 1, number)
		wantCode(t, "InstanceFormula", impl.ErrInvalid, impl.InstanceFormula, x, y, number)
	}
}

func TestInvalidInstances(t *testing.T) {
	for _, bad := range badInstances() {
		invalidInstanceCalls(t, mixed(), bad)
	}
	for _, bad := range badTemplates() {
		invalidInstanceCalls(t, bad, instance("1"))
		invalidInstanceCalls(t, bad, instance("3 0:01 1:2"))
		wantCode(t, "InstanceOfFormula", impl.ErrInvalid, impl.InstanceOfFormula, bad, formula("1 1"))
		wantCode(t, "InstanceOfFormula", impl.ErrInvalid, impl.InstanceOfFormula, bad, formula("2 2 =:01"))
	}
	for _, bad := range badFormulas() {
		wantCode(t, "InstanceOfFormula", impl.ErrInvalid, impl.InstanceOfFormula, mixed(), bad)
	}
	// a template without relations has no constraints
	invalidInstanceCalls(t, impl.Template{Size: 2}, instance("2 0:01"))
}

func TestLargeArgumentsOfInstances(t *testing.T) {
	long := make([]int64, 900000)
	rising := make([]int64, 900000)
	for i := range rising {
		rising[i] = int64(i)
	}
	many := impl.Instance{Vars: 1, Cons: slices.Repeat([]impl.Con{{Rel: 1, Scope: []int64{0}}}, 300000)}
	wide := impl.Instance{Vars: 1, Cons: []impl.Con{{Rel: 1, Scope: long}}}
	for _, x := range []impl.Instance{many, wide} {
		same(t, "ValidInstance", impl.ValidInstance(mixed(), x), false)
		same(t, "InstanceText", impl.InstanceText(x), "")
		same(t, "SameInstance", impl.SameInstance(x, x), true)
		_, code := impl.CountSolutions(mixed(), x)
		same(t, "CountSolutions", code, impl.ErrInvalid)
	}
	x, full := colours(), fullDomains(2, 3)
	for _, list := range [][]int64{long, rising} {
		_, code := impl.IsSolution(example(), x, list)
		same(t, "IsSolution", code, impl.ErrRange)
		_, code = impl.RestrictInstance(example(), x, list)
		same(t, "RestrictInstance", code, impl.ErrRange)
		same(t, "ValidDomains", impl.ValidDomains(example(), x, [][]int64{{0}, list, {1}}), false)
	}
	same(t, "ValidDomains", impl.ValidDomains(example(), x, make([][]int64, 900000)), false)
	_, index, code := impl.ReplayArcs(example(), x, full, slices.Repeat([]impl.ArcStep{{Var: 0, Value: 0, Con: 2}}, 300000))
	same(t, "ReplayArcs", []int64{index, code}, []int64{1, impl.ErrProof})
	_, index, code = impl.ReplayPairs(example(), instance("3 0:01 0:12 0:02"), slices.Repeat([]impl.PairStep{{I: 0, J: 1, Through: 2}}, 300000))
	same(t, "ReplayPairs", []int64{index, code}, []int64{1, impl.ErrProof})
}

func TestConsistencyAtTheSameTime(t *testing.T) {
	// many calls at once have the results of one call
	arcs := instance("4 0:23 0:12 0:01")
	left, steps := arcsBy(less(), arcs, fullDomains(4, 4))
	rels, moves, _ := pairsBy(less(), arcs)
	var group sync.WaitGroup
	got := make([]string, 40)
	for i := range got {
		group.Go(func() {
			a, b, _ := impl.MakeArcs(less(), arcs, fullDomains(4, 4))
			c, d, _ := impl.MakePairs(less(), arcs)
			got[i] = fmt.Sprint(a, b, c, d)
		})
	}
	group.Wait()
	for _, text := range got {
		same(t, "results", text, fmt.Sprint(left, steps, rels, moves))
	}
}
