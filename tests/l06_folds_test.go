package tests

import (
	"fmt"
	"math"
	"math/rand/v2"
	"slices"
	"testing"

	"loop.example/g01085/impl"
)

// semilattices returns operations of the kind KdSemilattice of a size: the least
// value, the greatest one, and one that has no order in which all values stand.
func semilattices(size int64) []impl.Op {
	flat := opWhere(size, 2, func(x []int64) int64 {
		if x[0] == x[1] {
			return x[0]
		}
		return size / 2
	})
	return []impl.Op{opWhere(size, 2, slices.Min[[]int64]), opWhere(size, 2, slices.Max[[]int64]), flat}
}

// diamond is the semilattice of the sets that two bits tell.
func diamond() impl.Op { return opWhere(4, 2, func(x []int64) int64 { return x[0] & x[1] }) }

// foldBy returns what an operation makes of values, by the definition.
func foldBy(size int64, f impl.Op, values []int64) int64 {
	if len(values) == 1 {
		return values[0]
	}
	last := len(values) - 1
	return given(size, f, []int64{foldBy(size, f, values[:last]), values[last]})
}

// arcsVerdictBy returns the verdict that arcs tell, with values that a function
// chooses from what is left.
func arcsVerdictBy(x impl.Template, y impl.Instance, choose func(values []int64) int64) impl.Verdict {
	left, steps := arcsBy(x, y, fullDomains(x.Size, y.Vars))
	v := impl.Verdict{Kind: impl.VkSolution}
	for _, values := range left {
		if len(values) == 0 {
			return impl.Verdict{Kind: impl.VkArcs, Arcs: steps}
		}
		v.Values = append(v.Values, choose(values))
	}
	return v
}

// isPolymorphismBy tells by the definition whether an operation keeps a template.
func isPolymorphismBy(x impl.Template, f impl.Op) bool {
	return !slices.ContainsFunc(x.Rels, func(r impl.Rel) bool { list, _ := breaksBy(x.Size, f, r); return list != nil })
}

// checkBySemilattice compares the answer of SolveBySemilattice with the
// definition, and returns the kind of the verdict, -1 if there is none.
func checkBySemilattice(t *testing.T, x impl.Template, y impl.Instance, f impl.Op) int64 {
	t.Helper()
	if !isKind(x.Size, f, impl.KdSemilattice) || !isPolymorphismBy(x, f) {
		wantCode(t, "SolveBySemilattice", impl.ErrState, impl.SolveBySemilattice, roomyTemplate(x), roomyInstance(y), roomyOp(f))
		return -1
	}
	v := arcsVerdictBy(x, y, func(values []int64) int64 { return foldBy(x.Size, f, values) })
	wantCall(t, "SolveBySemilattice", []any{v, 0}, impl.SolveBySemilattice, roomyTemplate(x), roomyInstance(y), roomyOp(f))
	checkSolved(t, x, y, v)
	return v.Kind
}

func TestSolveByConstant(t *testing.T) {
	source := rand.New(rand.NewPCG(4, 6))
	counts := map[int64]int{}
	check := func(x impl.Template, y impl.Instance) {
		for value := range x.Size {
			code := int64(impl.OK)
			values := slices.Repeat([]int64{value}, int(y.Vars))
			if !isPolymorphismBy(x, impl.Op{Arity: 1, Table: slices.Repeat([]int64{value}, int(x.Size))}) {
				code = impl.ErrState
			} else if failingBy(x, y, values) >= 0 {
				code = impl.ErrNotFound
			}
			counts[code]++
			if code != impl.OK {
				wantCode(t, "SolveByConstant", code, impl.SolveByConstant, roomyTemplate(x), roomyInstance(y), value)
				continue
			}
			v := impl.Verdict{Values: values}
			wantCall(t, "SolveByConstant", []any{v, 0}, impl.SolveByConstant, roomyTemplate(x), roomyInstance(y), value)
			checkSolved(t, x, y, v)
		}
	}
	eachInstance(9, 300, check)
	for size := int64(1); size <= 4; size++ {
		for _, x := range closedTemplates(5, size, 10, impl.Op{Arity: 1, Table: make([]int64, size)}) {
			check(x, randomInstance(source, x, 1+source.Int64N(10), source.IntN(8)))
		}
	}
	if counts[impl.OK] < 100 || counts[impl.ErrState] < 100 || counts[impl.ErrNotFound] < 20 {
		t.Errorf("too few constants: %v", counts)
	}
}

func TestKnownConstants(t *testing.T) {
	x := template(t, "3/2 01 11 22/3 012 111 222/1 1 2")
	wantCall(t, "SolveByConstant", []any{"{0 [1 1 1 1] [] [] []}", 0}, impl.SolveByConstant, x, instance("4 0:01 1:123 2:0"), 1)
	wantCall(t, "SolveByConstant", []any{"{0 [2] [] [] []}", 0}, impl.SolveByConstant, x, instance("1 0:00 1:000 2:0"), 2)
	wantCall(t, "SolveByConstant", []any{"{0 [1 1 1 1 1 1 1 1 1 1] [] [] []}", 0}, impl.SolveByConstant, x, instance("10"), 1)
	wantCall(t, "SolveByConstant", []any{"{0 [3 3] [] [] []}", 0}, impl.SolveByConstant, impl.Template{Size: 4}, instance("2"), 3)
	// no polymorphism, even if the values are a solution
	for _, short := range []string{"4 0:01", "1", "2 2:0"} {
		wantCode(t, "SolveByConstant", impl.ErrState, impl.SolveByConstant, x, instance(short), 0)
	}
	for _, value := range append([]int64{3, 4}, farAway...) {
		for _, y := range []impl.Template{x, {Size: 3}, {Size: 3, Rels: []impl.Rel{{Arity: 1}}}} {
			wantCode(t, "SolveByConstant", impl.ErrRange, impl.SolveByConstant, y, instance("1"), value)
		}
	}
	// a relation without tuples, of which a constraint speaks or does not
	empty := template(t, "2/2/1 1/1 0 1")
	wantCall(t, "SolveByConstant", []any{"{0 [1 1] [] [] []}", 0}, impl.SolveByConstant, empty, instance("2 1:0 2:1"), 1)
	wantCode(t, "SolveByConstant", impl.ErrNotFound, impl.SolveByConstant, empty, instance("2 1:0 0:01"), 1)
	wantCode(t, "SolveByConstant", impl.ErrNotFound, impl.SolveByConstant, empty, instance("1 0:00 1:0"), 1)
	wantCode(t, "SolveByConstant", impl.ErrState, impl.SolveByConstant, empty, instance("1 0:00 1:0"), 0)
	wantCode(t, "SolveByConstant", impl.ErrState, impl.SolveByConstant, empty, instance("1"), 0)
	wantCode(t, "SolveByConstant", impl.ErrRange, impl.SolveByConstant, empty, instance("1 0:00"), 2)
}

func TestFoldValues(t *testing.T) {
	source := rand.New(rand.NewPCG(6, 6))
	for size := int64(1); size <= 4; size++ {
		x := impl.Template{Size: size, Rels: []impl.Rel{{Arity: 1}}}
		for _, f := range append(someOps(size, 2), semilattices(size)...) {
			for value := range size {
				wantCall(t, "FoldValues", []any{value, 0}, impl.FoldValues, x, roomyOp(f), roomyList(value))
			}
			for range 12 {
				var values []int64
				for range 2 + source.IntN(7) {
					values = append(values, source.Int64N(size))
				}
				wantCall(t, "FoldValues", []any{foldBy(size, f, values), 0}, impl.FoldValues, roomyTemplate(x), roomyOp(f), roomyList(values...))
			}
		}
	}
	// from the first one on, and what there is in front
	minus := opWhere(3, 2, func(x []int64) int64 { return (x[0] + 2*x[1]) % 3 })
	wantCall(t, "FoldValues", []any{1, 0}, impl.FoldValues, impl.Template{Size: 3}, minus, []int64{1, 2, 1})
	wantCall(t, "FoldValues", []any{2, 0}, impl.FoldValues, impl.Template{Size: 3}, minus, []int64{0, 1})
	wantCall(t, "FoldValues", []any{1, 0}, impl.FoldValues, impl.Template{Size: 3}, minus, []int64{1, 0})
}

func TestFoldsOfSemilattices(t *testing.T) {
	for size := int64(2); size <= 4; size++ {
		x := impl.Template{Size: size}
		for _, f := range append(semilattices(size), diamond()) {
			if !isKind(size, f, impl.KdSemilattice) {
				continue
			}
			// the order does not matter, nor how often a value comes
			for _, values := range listsOf(size, 4) {
				wanted, code := impl.FoldValues(x, f, values)
				same(t, "FoldValues", code, impl.OK)
				for _, order := range ordersOf(values) {
					got, _ := impl.FoldValues(x, f, order)
					same(t, fmt.Sprint("FoldValues of ", order), got, wanted)
				}
				once := slices.Compact(slices.Sorted(slices.Values(values)))
				wantCall(t, "FoldValues of each value once", []any{wanted, 0}, impl.FoldValues, x, f, once)
			}
		}
	}
}

func TestListsThatAreNotFolded(t *testing.T) {
	x := order()
	for _, values := range [][]int64{nil, {}, {2}, {-1}, {0, 2}, {2, 0}, {0, 1, 0, -1}, {0, 1, math.MaxInt64}, {math.MinInt64, 1}} {
		wantCode(t, "FoldValues", impl.ErrRange, impl.FoldValues, x, leastOf, values)
	}
	for _, arity := range []int64{1, 3} {
		for _, f := range someOps(2, arity) {
			for _, values := range [][]int64{{0}, {1}, {0, 1}, {1, 1, 0}, {2}, nil} {
				wantCode(t, "FoldValues", impl.ErrRange, impl.FoldValues, x, f, values)
			}
		}
	}
	for _, f := range badOps() {
		for _, values := range [][]int64{{0}, {0, 1}, nil, {2}} {
			wantCode(t, "FoldValues", impl.ErrInvalid, impl.FoldValues, x, f, values)
		}
	}
	for _, bad := range badTemplates() {
		wantCode(t, "FoldValues", impl.ErrInvalid, impl.FoldValues, bad, leastOf, []int64{0, 1})
		wantCode(t, "FoldValues", impl.ErrInvalid, impl.FoldValues, bad, leastOf, nil)
	}
	// an operation of another size
	wantCode(t, "FoldValues", impl.ErrInvalid, impl.FoldValues, round(), leastOf, []int64{0, 1})
	wantCode(t, "FoldValues", impl.ErrInvalid, impl.FoldValues, impl.Template{Size: 1}, leastOf, []int64{0})
	wantCode(t, "FoldValues", impl.ErrInvalid, impl.FoldValues, x, diamond(), []int64{9})
}

func TestSolveBySemilattice(t *testing.T) {
	source := rand.New(rand.NewPCG(7, 6))
	counts := map[int64]int{}
	for size := int64(1); size <= 4; size++ {
		ops := semilattices(size)
		if size == 4 {
			ops = append(ops, diamond())
		}
		for i, f := range ops {
			for _, x := range closedTemplates(uint64(10*size)+uint64(i), size, 12, f) {
				for range 3 {
					vars := 1 + source.Int64N(6)
					y := randomInstance(source, x, vars, source.IntN(7))
					counts[checkBySemilattice(t, x, y, f)]++
				}
				for _, g := range append(ops, opWhere(size, 1, slices.Max[[]int64]), opWhere(size, 3, middle), randomOp(source, size, 2)) {
					counts[checkBySemilattice(t, x, instance("2"), g)]++
				}
			}
		}
	}
	if counts[impl.VkSolution] < 100 || counts[impl.VkArcs] < 50 || counts[-1] < 100 {
		t.Errorf("too few verdicts: %v", counts)
	}
}

func TestKnownVerdictsBySemilattice(t *testing.T) {
	most := opWhere(2, 2, slices.Max[[]int64])
	x := template(t, "2/2 00 01 11/1 1/1 0")
	for _, c := range []struct {
		short string
		f     impl.Op
		want  string
	}{
		// arcs that leave all values: none without constraints
		{"3", leastOf, "{0 [0 0 0] [] [] []}"}, {"3", most, "{0 [1 1 1] [] [] []}"}, {"2 0:01", leastOf, "{0 [0 0] [] [] []}"}, {"2 0:10", most, "{0 [1 1] [] [] []}"}, {"1", most, "{0 [1] [] [] []}"}, {"10", leastOf, "{0 [0 0 0 0 0 0 0 0 0 0] [] [] []}"},
		// some
		{"3 0:01 1:0", leastOf, "{0 [1 1 0] [] [] []}"}, {"3 0:01 2:1", most, "{0 [0 0 1] [] [] []}"}, {"3 0:01 0:12 1:1", leastOf, "{0 [0 1 1] [] [] []}"},
		// none, and all steps behind that
		{"1 1:0 2:0", leastOf, "{1 [] [{0 0 0} {0 1 1}] [] []}"}, {"1 2:0 1:0", most, "{1 [] [{0 1 0} {0 0 1}] [] []}"},
		{"2 1:0 2:1 0:01", most, "{1 [] [{0 0 0} {1 1 1} {0 1 2} {1 0 2}] [] []}"}, {"3 1:2 2:2 0:21", leastOf, "{1 [] [{2 0 0} {2 1 1} {1 0 2} {1 1 2}] [] []}"},
	} {
		wantCall(t, "SolveBySemilattice", []any{c.want, 0}, impl.SolveBySemilattice, x, instance(c.short), c.f)
		checkBySemilattice(t, x, instance(c.short), c.f)
	}
	// what is made of two values need not be one of them
	sets := template(t, "4/1 1 2/1 0 1 2/1 3/2 00 01 02 11 12 21 22 33")
	for _, short := range []string{"1 1:0", "2 3:01"} {
		wantCode(t, "SolveBySemilattice", impl.ErrState, impl.SolveBySemilattice, sets, instance(short), diamond())
	}
	closed := template(t, "4/1 0 1 2/2 00 11 22 33")
	wantCall(t, "SolveBySemilattice", []any{"{0 [0 0 0] [] [] []}", 0}, impl.SolveBySemilattice, closed, instance("3 0:1 1:12"), diamond())
	// relations without tuples
	empty := template(t, "2/2/1 1")
	wantCall(t, "SolveBySemilattice", []any{"{1 [] [{1 0 0} {1 1 0}] [] []}", 0}, impl.SolveBySemilattice, empty, instance("2 0:11"), leastOf)
	wantCall(t, "SolveBySemilattice", []any{"{0 [1 0] [] [] []}", 0}, impl.SolveBySemilattice, empty, instance("2 1:0"), leastOf)
}

func TestOperationsThatAreNoSemilattices(t *testing.T) {
	all := impl.Template{Size: 2}
	for arity := int64(1); arity <= 3; arity++ {
		for _, f := range someOps(2, arity) {
			checkBySemilattice(t, all, instance("2"), f)
		}
	}
	for _, f := range []impl.Op{
		opWhere(3, 2, func(x []int64) int64 { return x[0] }), opWhere(3, 2, func(x []int64) int64 { return 0 }), opWhere(3, 2, func(x []int64) int64 { return 2 * (x[0] + x[1]) % 3 }), opWhere(3, 3, slices.Min[[]int64]), opWhere(3, 1, slices.Min[[]int64]),
		{Arity: 2, Table: []int64{0, 0, 2, 0, 1, 1, 2, 1, 2}}, // of all kinds but one: it is not associative
	} {
		wantCode(t, "SolveBySemilattice", impl.ErrState, impl.SolveBySemilattice, impl.Template{Size: 3}, instance("2"), f)
		checkBySemilattice(t, impl.Template{Size: 3}, instance("2"), f)
	}
	// semilattices that are no polymorphisms, of relations of which no constraint speaks
	for _, short := range []string{"2", "2 0:01", "1 1:0"} {
		wantCode(t, "SolveBySemilattice", impl.ErrState, impl.SolveBySemilattice, template(t, "2/2 00 01 11/1 1/2 01 10"), instance(short), leastOf)
	}
}
