package tests

import (
	"fmt"
	"math"
	"math/rand/v2"
	"slices"
	"testing"

	"loop.example/g01085/impl"
)

// cloneBy returns all operations of an arity that can be composed, by the
// definition; nil if there are more than a limit.
func cloneBy(size, arity int64, ops []impl.Op, limit int) []impl.Op {
	known := map[string]bool{}
	var clone []impl.Op
	add := func(f impl.Op) {
		if !known[fmt.Sprint(f)] {
			known[fmt.Sprint(f)] = true
			clone = append(clone, f)
		}
	}
	for _, p := range projectionsOf(size, arity) {
		add(p)
	}
	for before := 0; before < len(clone); {
		before = len(clone)
		for _, f := range ops {
			for _, indices := range listsOf(int64(before), f.Arity) {
				add(opWhere(size, arity, func(list []int64) int64 {
					var between []int64
					for _, i := range indices {
						between = append(between, given(size, clone[i], list))
					}
					return given(size, f, between)
				}))
				if len(clone) > limit {
					return nil
				}
			}
		}
	}
	slices.SortFunc(clone, func(f, g impl.Op) int { return slices.Compare(f.Table, g.Table) })
	return clone
}

func TestCloneUpToByDefinition(t *testing.T) {
	source := rand.New(rand.NewPCG(9, 9))
	for range 60 {
		size := 1 + source.Int64N(4)
		var ops []impl.Op
		for range source.IntN(3) {
			some := someOps(size, 1+source.Int64N(3))
			ops = append(ops, some[source.IntN(len(some))])
		}
		for arity := int64(1); arity <= 3; arity++ {
			checkClone(t, size, arity, ops)
		}
	}
	for size := int64(1); size <= 4; size++ {
		least, greatest := opWhere(size, 2, slices.Min[[]int64]), opWhere(size, 2, slices.Max[[]int64])
		for arity := int64(1); arity <= 3; arity++ {
			checkClone(t, size, arity, []impl.Op{least})
			checkClone(t, size, arity, []impl.Op{greatest, least})
			checkClone(t, size, arity, projectionsOf(size, 3))
		}
	}
}

// checkClone compares a clone with the definition, if it is a small one, and
// looks at what has to hold for all.
func checkClone(t *testing.T, size, arity int64, ops []impl.Op) {
	t.Helper()
	got, code := impl.CloneUpTo(size, arity, ops)
	if len(got) > 12 || code == impl.ErrLimit && size > 2 {
		checkIsClone(t, size, arity, ops, got)
		return
	}
	want := cloneBy(size, arity, ops, 64)
	if want == nil {
		wantCode(t, "CloneUpTo", impl.ErrLimit, impl.CloneUpTo, size, arity, ops)
		return
	}
	wantCall(t, "CloneUpTo", []any{want, 0}, impl.CloneUpTo, size, arity, roomyOps(ops...))
}

// checkIsClone checks that a list has the projections, is in order, and that
// compositions lie in it.
func checkIsClone(t *testing.T, size, arity int64, ops, clone []impl.Op) {
	t.Helper()
	if clone == nil {
		return
	}
	known := map[string]bool{}
	for i, f := range clone {
		known[fmt.Sprint(f)] = true
		if !impl.ValidOp(size, f) || f.Arity != arity || i > 0 && slices.Compare(clone[i-1].Table, f.Table) >= 0 {
			t.Errorf("CloneUpTo of %d %d %v: %v in the wrong place", size, arity, ops, f)
		}
	}
	for _, p := range projectionsOf(size, arity) {
		if !known[fmt.Sprint(p)] {
			t.Errorf("CloneUpTo of %d %d %v has no %v", size, arity, ops, p)
		}
	}
	source := rand.New(rand.NewPCG(10, 10))
	for _, f := range ops {
		for range 100 {
			var list []impl.Op
			for range f.Arity {
				list = append(list, clone[source.IntN(len(clone))])
			}
			composed, code := impl.ComposeOps(size, f, list)
			if code != impl.OK || !known[fmt.Sprint(composed)] {
				t.Errorf("CloneUpTo of %d %d %v has no %v", size, arity, ops, composed)
			}
		}
	}
}

func TestCloneKeepsWhatItsOperationsKeep(t *testing.T) {
	for size := int64(2); size <= 3; size++ {
		for _, f := range append(someOps(size, 2), someOps(size, 1)...) {
			for arity := int64(1); arity <= 3; arity++ {
				clone, _ := impl.CloneUpTo(size, arity, []impl.Op{f})
				for _, r := range append(someRels(size, 2), smallRels(size, 3)...) {
					kept, _ := impl.Keeps(size, f, r)
					if !kept {
						continue
					}
					for _, g := range clone {
						wantCall(t, "Keeps", []any{true, 0}, impl.Keeps, size, g, r)
					}
				}
			}
		}
	}
}

func TestExactlyMaxOpsAreComposed(t *testing.T) {
	for _, c := range []struct {
		arity int64
		ops   []impl.Op
		code  int64
	}{
		{1, unary([]int64{1, 3, 0, 0}, []int64{2, 3, 3, 0}), impl.OK},
		{1, unary([]int64{0, 2, 0, 2}, []int64{0, 0, 3, 2}, []int64{3, 0, 0, 1}), impl.OK},
		{1, unary([]int64{2, 0, 1, 0}, []int64{0, 1, 0, 3}, []int64{3, 3, 0, 2}), impl.ErrLimit},
		{1, unary([]int64{2, 3, 2, 3}, []int64{1, 3, 0, 0}, []int64{3, 1, 1, 0}), impl.ErrLimit},
		{2, unary([]int64{2, 2, 1, 3}, []int64{3, 3, 1, 3}, []int64{0, 3, 1, 0}), impl.OK},
		{2, unary([]int64{0, 3, 2, 2}, []int64{3, 3, 3, 1}, []int64{0, 2, 3, 2}), impl.ErrLimit},
		{3, unary([]int64{0, 1, 0, 2}, []int64{0, 3, 3, 1}), impl.OK},
		{3, unary([]int64{1, 1, 0, 3}, []int64{1, 0, 1, 2}, []int64{1, 0, 0, 2}), impl.ErrLimit},
	} {
		most, more := cloneBy(4, c.arity, c.ops, 64), cloneBy(4, c.arity, c.ops, 65)
		if c.code == impl.OK {
			same(t, "operations", len(most), 64)
			wantCall(t, "CloneUpTo", []any{most, 0}, impl.CloneUpTo, 4, c.arity, roomyOps(c.ops...))
		} else {
			same(t, "operations", []int{len(most), len(more)}, []int{0, 65})
			wantCode(t, "CloneUpTo", impl.ErrLimit, impl.CloneUpTo, 4, c.arity, c.ops)
		}
	}
	for seed := range uint64(3) {
		f := randomOp(rand.New(rand.NewPCG(11, seed)), 4, 3)
		wantCode(t, "CloneUpTo", impl.ErrLimit, impl.CloneUpTo, 4, 3, []impl.Op{f})
	}
}

func TestExactlyMaxOpsAreGiven(t *testing.T) {
	most := slices.Repeat([]impl.Op{leastOf}, 64)
	more := append(slices.Clone(most), leastOf)
	pairs := [][]int64{{0, 1}, {1, 0}}
	wantCall(t, "ClosureOf", []any{"{2 [[0 0] [0 1] [1 0]]}", 0}, impl.ClosureOf, 2, 2, most, pairs)
	wantCall(t, "CloneUpTo", []any{"[{2 [0 0 0 1]} {2 [0 0 1 1]} {2 [0 1 0 1]}]", 0}, impl.CloneUpTo, 2, 2, most)
	wantCode(t, "ClosureOf", impl.ErrLimit, impl.ClosureOf, 2, 2, more, pairs)
	wantCode(t, "CloneUpTo", impl.ErrLimit, impl.CloneUpTo, 2, 2, more)
	var different []impl.Op
	for _, list := range listsOf(4, 3) {
		different = append(different, impl.Op{Arity: 1, Table: append(list, 3)})
	}
	slices.Reverse(different)
	want := slices.Clone(different)
	slices.Reverse(want)
	wantCall(t, "CloneUpTo", []any{want, 0}, impl.CloneUpTo, 4, 1, different)
	wantCall(t, "ClosureOf", []any{"{1 [[0] [1] [2] [3]]}", 0}, impl.ClosureOf, 4, 1, different, [][]int64{{1}})
	wantCode(t, "CloneUpTo", impl.ErrLimit, impl.CloneUpTo, 4, 1, append(different, want[0]))
}

func TestErrorsOfClosing(t *testing.T) {
	ops := []impl.Op{leastOf}
	more := slices.Repeat(ops, 65)
	for _, arity := range append(noArities, noOpArities...) {
		if arity != 4 {
			wantCode(t, "ClosureOf", impl.ErrRange, impl.ClosureOf, 2, arity, ops, nil)
			wantCode(t, "ClosureOf", impl.ErrRange, impl.ClosureOf, 2, arity, nil, [][]int64{{}})
			wantCode(t, "ClosureOf", impl.ErrLimit, impl.ClosureOf, 2, arity, more, nil)
		}
	}
	wantCode(t, "ClosureOf", impl.OK, impl.ClosureOf, 2, 4, ops, [][]int64{{0, 1, 0, 1}})
	for _, arity := range noOpArities {
		wantCode(t, "CloneUpTo", impl.ErrRange, impl.CloneUpTo, 2, arity, ops)
		wantCode(t, "CloneUpTo", impl.ErrRange, impl.CloneUpTo, 2, arity, nil)
		wantCode(t, "CloneUpTo", impl.ErrLimit, impl.CloneUpTo, 2, arity, more)
	}
	for _, tuple := range notLists() {
		wantCode(t, "ClosureOf", impl.ErrRange, impl.ClosureOf, 2, 2, ops, [][]int64{tuple})
		wantCode(t, "ClosureOf", impl.ErrRange, impl.ClosureOf, 2, 2, nil, [][]int64{{0, 0}, {0, 1}, {1, 0}, {1, 1}, tuple})
		wantCode(t, "ClosureOf", impl.ErrLimit, impl.ClosureOf, 2, 2, more, [][]int64{tuple})
	}
	for _, bad := range badOps() {
		for _, list := range [][]impl.Op{{bad}, {leastOf, bad}, append(slices.Clone(more), bad)} {
			wantCode(t, "ClosureOf", impl.ErrInvalid, impl.ClosureOf, 2, 2, list, nil)
			wantCode(t, "ClosureOf", impl.ErrInvalid, impl.ClosureOf, 2, 0, list, [][]int64{{9}})
			wantCode(t, "CloneUpTo", impl.ErrInvalid, impl.CloneUpTo, 2, 2, list)
			wantCode(t, "CloneUpTo", impl.ErrInvalid, impl.CloneUpTo, 2, 0, list)
		}
	}
	for _, size := range noSizes {
		for _, list := range [][]impl.Op{nil, ops, more} {
			wantCode(t, "ClosureOf", impl.ErrInvalid, impl.ClosureOf, size, 2, list, nil)
			wantCode(t, "ClosureOf", impl.ErrInvalid, impl.ClosureOf, size, 9, list, [][]int64{{0}})
			wantCode(t, "CloneUpTo", impl.ErrInvalid, impl.CloneUpTo, size, 2, list)
			wantCode(t, "CloneUpTo", impl.ErrInvalid, impl.CloneUpTo, size, 9, list)
		}
	}
}

// invalidOpCalls calls all functions that get an operation and a relation or
// tuples, of which one is not valid, with arguments that would have other
// errors, too.
func invalidOpCalls(t *testing.T, size int64, f impl.Op, r impl.Rel) {
	t.Helper()
	wantCode(t, "Keeps", impl.ErrInvalid, impl.Keeps, size, f, r)
	wantCode(t, "BreakingTuples", impl.ErrInvalid, impl.BreakingTuples, size, f, r)
	for _, rels := range [][]impl.Rel{{r}, {{Arity: 1}, r}, {r, r, r, r, r, r}} {
		wantCode(t, "KeepsAll", impl.ErrInvalid, impl.KeepsAll, impl.Template{Size: size, Rels: rels}, f)
	}
}

func TestInvalidOperations(t *testing.T) {
	good := impl.Rel{Arity: 1, Tuples: [][]int64{{0}}}
	check := func(size int64, bad impl.Op) {
		invalidOpCalls(t, size, bad, good)
		for _, args := range [][]int64{nil, {0}, {0, 1}, {9, 9, 9}} {
			wantCode(t, "ApplyOp", impl.ErrInvalid, impl.ApplyOp, size, bad, args)
			wantCode(t, "MinorOf", impl.ErrInvalid, impl.MinorOf, size, bad, 2, args)
			wantCode(t, "MinorOf", impl.ErrInvalid, impl.MinorOf, size, bad, 0, args)
			wantCode(t, "ApplyToTuples", impl.ErrInvalid, impl.ApplyToTuples, size, bad, [][]int64{args, args})
			wantCode(t, "ApplyToTuples", impl.ErrInvalid, impl.ApplyToTuples, size, bad, [][]int64{args})
		}
		for _, list := range [][]impl.Op{nil, {leastOf}, {leastOf, leastOf}, {leastOf, unary([]int64{0, 1})[0]}} {
			wantCode(t, "ComposeOps", impl.ErrInvalid, impl.ComposeOps, size, bad, list)
		}
		for kind := int64(1); kind <= 10; kind++ {
			wantCode(t, "IsOfKind", impl.ErrInvalid, impl.IsOfKind, size, bad, kind)
		}
		wantCode(t, "KindsOf", impl.ErrInvalid, impl.KindsOf, size, bad)
		wantCode(t, "DependsOn", impl.ErrInvalid, impl.DependsOn, size, bad)
		wantCode(t, "GraphOfOp", impl.ErrInvalid, impl.GraphOfOp, size, bad)
		wantCode(t, "KeepsAll", impl.ErrInvalid, impl.KeepsAll, impl.Template{Size: size}, bad)
	}
	for _, bad := range badOps() {
		check(2, bad)
	}
	for _, size := range append(noSizes, 1, 3, 4) {
		check(size, leastOf)
	}
}

func TestInvalidRelationsOfOperations(t *testing.T) {
	for _, bad := range badRels() {
		invalidOpCalls(t, 2, leastOf, bad)
		wantCode(t, "OpOfGraph", impl.ErrInvalid, impl.OpOfGraph, 2, bad)
	}
	for _, size := range noSizes {
		wantCode(t, "OpOfGraph", impl.ErrInvalid, impl.OpOfGraph, size, impl.Rel{Arity: 2})
		wantCode(t, "OpOfGraph", impl.ErrInvalid, impl.OpOfGraph, size, impl.Rel{Arity: 1})
	}
	for _, bad := range badTemplates() {
		for size := int64(1); size <= 4; size++ {
			wantCode(t, "KeepsAll", impl.ErrInvalid, impl.KeepsAll, bad, opWhere(size, 2, slices.Min[[]int64]))
		}
	}
}

func TestLargeArgumentsOfOperations(t *testing.T) {
	long := make([]int64, 400000)
	wantCall(t, "ApplyToTuples", []any{long, 0}, impl.ApplyToTuples, 2, leastOf, [][]int64{long, slices.Clone(long)})
	wantCall(t, "ValidOp", []any{false}, impl.ValidOp, 4, impl.Op{Arity: 3, Table: long})
	wantCode(t, "ClosureOf", impl.ErrRange, impl.ClosureOf, 2, 2, nil, [][]int64{long})
	many := slices.Repeat([]impl.Op{{Arity: 1, Table: []int64{0}}}, 100000)
	wantCode(t, "ComposeOps", impl.ErrRange, impl.ComposeOps, 1, many[0], many)
	wantCode(t, "CloneUpTo", impl.ErrLimit, impl.CloneUpTo, 1, math.MaxInt64, many)
	wantCode(t, "CloneUpTo", impl.ErrInvalid, impl.CloneUpTo, 2, 1, many)
	wantCall(t, "ClosureOf", []any{"{1 [[0]]}", 0}, impl.ClosureOf, 1, 1, many[:64], slices.Repeat([][]int64{{0}}, 100000))
}
