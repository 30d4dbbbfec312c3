package tests

import (
	"fmt"
	"math/rand/v2"
	"slices"
	"testing"

	"loop.example/g01085/impl"
)

// madeOf returns the tuple that an operation makes, by the definition.
func madeOf(size int64, f impl.Op, tuples [][]int64) []int64 {
	made := []int64{}
	for place := range tuples[0] {
		var list []int64
		for _, tuple := range tuples {
			list = append(list, tuple[place])
		}
		made = append(made, given(size, f, list))
	}
	return made
}

// pick returns the tuples with some indices.
func pick(tuples [][]int64, indices []int64) [][]int64 {
	var list [][]int64
	for _, i := range indices {
		list = append(list, tuples[i])
	}
	return list
}

// breaksBy returns the first list of tuples that is broken, by the definition.
func breaksBy(size int64, f impl.Op, r impl.Rel) ([][]int64, []int64) {
	set := setOf(r)
	for _, indices := range listsOf(int64(len(r.Tuples)), f.Arity) {
		list := pick(r.Tuples, indices)
		if made := madeOf(size, f, list); !set[keyOf(made)] {
			return list, made
		}
	}
	return nil, nil
}

// closureBy returns the closure of some tuples, by the definition.
func closureBy(size, arity int64, ops []impl.Op, tuples [][]int64) impl.Rel {
	r, _ := impl.MakeRel(size, arity, tuples)
	for {
		set := setOf(r)
		all := slices.Clone(r.Tuples)
		for _, f := range ops {
			for _, indices := range listsOf(int64(len(r.Tuples)), f.Arity) {
				made := madeOf(size, f, pick(r.Tuples, indices))
				if !set[keyOf(made)] {
					set[keyOf(made)] = true
					all = append(all, made)
				}
			}
		}
		if len(all) == len(r.Tuples) {
			return r
		}
		r, _ = impl.MakeRel(size, arity, all)
	}
}

// smallRels returns relations of a size and an arity with not too many tuples.
func smallRels(size, arity int64) []impl.Rel {
	rels := []impl.Rel{{Arity: arity}}
	for _, r := range someRels(size, arity) {
		if len(r.Tuples) <= 8 {
			rels = append(rels, r)
		}
	}
	return rels
}

func TestApplyToTuples(t *testing.T) {
	source := rand.New(rand.NewPCG(5, 5))
	eachOp(func(size int64, f impl.Op) {
		for length := range 7 {
			tuples := make([][]int64, 0, f.Arity+2)
			for range f.Arity {
				tuple := make([]int64, 0, length+2)
				for range length {
					tuple = append(tuple, source.Int64N(size))
				}
				tuples = append(tuples, tuple)
			}
			wantCall(t, "ApplyToTuples", []any{madeOf(size, f, tuples), 0}, impl.ApplyToTuples, size, roomyOp(f), tuples)
		}
		// the values of the lists are those of the table
		var places [][]int64
		for place := range f.Arity {
			var column []int64
			for _, list := range listsOf(size, f.Arity) {
				column = append(column, list[place])
			}
			places = append(places, column)
		}
		wantCall(t, "ApplyToTuples", []any{f.Table, 0}, impl.ApplyToTuples, size, f, places)
	})
	one := []int64{0, 1}
	for _, tuples := range [][][]int64{
		nil, {}, {one}, {one, one, one}, {one, {0}}, {{0}, one}, {one, {}}, {nil, one}, {one, nil}, {one, {0, 1, 1}},
		{{0, 2}, one}, {one, {2, 0}}, {{0, -1}, one}, {one, {-1, 0}}, {{}, {}, {}}, {{}}, {{5}, {5}},
	} {
		wantCode(t, "ApplyToTuples", impl.ErrRange, impl.ApplyToTuples, 2, leastOf, tuples)
	}
	for _, value := range farAway {
		wantCode(t, "ApplyToTuples", impl.ErrRange, impl.ApplyToTuples, 2, leastOf, [][]int64{one, {0, value}})
		wantCode(t, "ApplyToTuples", impl.ErrRange, impl.ApplyToTuples, 2, impl.Op{Arity: 1, Table: []int64{0, 0}}, [][]int64{{value}})
	}
	wantCall(t, "ApplyToTuples", []any{"[]", 0}, impl.ApplyToTuples, 2, leastOf, [][]int64{{}, nil})
	wantCall(t, "ApplyToTuples", []any{"[0 1]", 0}, impl.ApplyToTuples, 2, leastOf, [][]int64{one, one})
}

// checkKeeping compares what is said of an operation and a relation with the
// definition, and with what closing adds.
func checkKeeping(t *testing.T, size int64, f impl.Op, r impl.Rel) {
	t.Helper()
	list, made := breaksBy(size, f, r)
	wantCall(t, "Keeps", []any{list == nil, 0}, impl.Keeps, size, roomyOp(f), roomy(r))
	if list == nil {
		wantCode(t, "BreakingTuples", impl.ErrNotFound, impl.BreakingTuples, size, f, r)
	} else {
		wantCall(t, "BreakingTuples", []any{list, made, 0}, impl.BreakingTuples, size, roomyOp(f), roomy(r))
	}
	want := closureBy(size, r.Arity, []impl.Op{f}, r.Tuples)
	closed := call(t, impl.ClosureOf, size, r.Arity, roomyOps(f), r.Tuples)
	same(t, fmt.Sprint("ClosureOf of ", size, f, r), closed, []any{want, 0})
	same(t, fmt.Sprint("closing adds nothing to ", r, " with ", f), len(want.Tuples) == len(r.Tuples), list == nil)
}

func TestKeepingByDefinition(t *testing.T) {
	eachOp(func(size int64, f impl.Op) {
		for arity := int64(1); arity <= 4; arity++ {
			for _, r := range smallRels(size, arity) {
				checkKeeping(t, size, f, r)
			}
		}
	})
	for _, f := range someOps(2, 2) {
		for _, r := range someRels(2, 2) {
			checkKeeping(t, 2, f, r)
		}
	}
}

func TestOrderOfBreakingTuples(t *testing.T) {
	all := impl.Rel{Arity: 2, Tuples: [][]int64{{0, 0}, {0, 1}, {1, 0}}}
	xor := impl.Op{Arity: 2, Table: []int64{0, 1, 1, 0}}
	wantCall(t, "BreakingTuples", []any{"[[0 1] [1 0]]", "[1 1]", 0}, impl.BreakingTuples, 2, xor, all)
	// the later one comes first in the list of tuples, not in the order of what is made
	back := impl.Op{Arity: 2, Table: []int64{0, 0, 1, 0}}
	wantCall(t, "BreakingTuples", []any{"[[0 1] [0 1]]", "[0 0]", 0}, impl.BreakingTuples, 2, back, impl.Rel{Arity: 2, Tuples: [][]int64{{0, 1}, {1, 0}}})
	// the first index decides before the others
	third := impl.Op{Arity: 3, Table: []int64{0, 0, 0, 0, 1, 0, 0, 1}}
	points := impl.Rel{Arity: 2, Tuples: [][]int64{{0, 0}, {0, 1}, {1, 1}}}
	list, made := breaksBy(2, third, points)
	wantCall(t, "BreakingTuples", []any{list, made, 0}, impl.BreakingTuples, 2, third, points)
	// a tuple may come several times, each time in memory of its own
	wantCall(t, "BreakingTuples", []any{"[[1] [1] [1]]", "[0]", 0}, impl.BreakingTuples, 2, impl.Op{Arity: 3, Table: make([]int64, 8)}, impl.Rel{Arity: 1, Tuples: [][]int64{{1}}})
	wantCall(t, "BreakingTuples", []any{"[[1 2]]", "[2 1]", 0}, impl.BreakingTuples, 3, impl.Op{Arity: 1, Table: []int64{0, 2, 1}}, impl.Rel{Arity: 2, Tuples: [][]int64{{0, 0}, {1, 2}}})
	source := rand.New(rand.NewPCG(6, 6))
	for range 60 {
		size, arity := 2+source.Int64N(3), 1+source.Int64N(3)
		f := randomOp(source, size, 1+source.Int64N(3))
		full := listsOf(size, arity)
		gone := source.IntN(len(full))
		r := impl.Rel{Arity: arity, Tuples: slices.Delete(slices.Clone(full), gone, gone+1)}
		if len(r.Tuples) > 27 {
			continue
		}
		list, made := breaksBy(size, f, r)
		if list != nil {
			wantCall(t, "BreakingTuples", []any{list, made, 0}, impl.BreakingTuples, size, f, r)
		}
	}
}

func TestLargeRelationsAreKept(t *testing.T) {
	full := impl.Rel{Arity: 4, Tuples: listsOf(4, 4)}
	nearly := impl.Rel{Arity: 4, Tuples: full.Tuples[:255]}
	f := opWhere(4, 3, func(list []int64) int64 { return max(0, list[0]+list[1]+list[2]-6) })
	wantCall(t, "Keeps", []any{true, 0}, impl.Keeps, 4, f, full)
	wantCall(t, "Keeps", []any{true, 0}, impl.Keeps, 4, f, nearly)
	wantCode(t, "BreakingTuples", impl.ErrNotFound, impl.BreakingTuples, 4, f, nearly)
	greatest := opWhere(4, 3, slices.Max[[]int64])
	wantCall(t, "BreakingTuples", []any{"[[0 0 0 0] [0 0 0 3] [3 3 3 0]]", "[3 3 3 3]", 0}, impl.BreakingTuples, 4, greatest, nearly)
	wantCall(t, "ClosureOf", []any{full, 0}, impl.ClosureOf, 4, 4, []impl.Op{greatest}, nearly.Tuples)
	wantCall(t, "ClosureOf", []any{nearly, 0}, impl.ClosureOf, 4, 4, []impl.Op{f}, nearly.Tuples)
}

func TestKeepsAll(t *testing.T) {
	for _, x := range someTemplates() {
		for arity := int64(1); arity <= 2; arity++ {
			for _, f := range someOps(x.Size, arity) {
				want := int64(-1)
				for i, r := range x.Rels {
					if kept, _ := impl.Keeps(x.Size, f, r); !kept {
						want = int64(i)
						break
					}
				}
				wantCall(t, "KeepsAll", []any{want, 0}, impl.KeepsAll, roomyTemplate(x), roomyOp(f))
			}
		}
	}
	not := impl.Op{Arity: 1, Table: []int64{1, 0}}
	kept, broken := impl.Rel{Arity: 2, Tuples: [][]int64{{0, 1}, {1, 0}}}, impl.Rel{Arity: 1, Tuples: [][]int64{{0}}}
	for _, c := range []struct {
		rels []impl.Rel
		want int64
	}{
		{nil, -1}, {[]impl.Rel{{Arity: 4}}, -1}, {[]impl.Rel{kept, {Arity: 1}}, -1}, {[]impl.Rel{broken}, 0}, {[]impl.Rel{broken, kept, broken}, 0},
		{[]impl.Rel{kept, broken, broken}, 1}, {[]impl.Rel{kept, kept, kept, kept, kept, broken}, 5}, {[]impl.Rel{kept, kept, kept, kept, kept, kept}, -1},
	} {
		wantCall(t, "KeepsAll", []any{c.want, 0}, impl.KeepsAll, impl.Template{Size: 2, Rels: c.rels}, not)
	}
}

// unary returns operations of the arity 1.
func unary(tables ...[]int64) []impl.Op {
	var ops []impl.Op
	for _, table := range tables {
		ops = append(ops, impl.Op{Arity: 1, Table: table})
	}
	return ops
}

func TestClosureOf(t *testing.T) {
	source := rand.New(rand.NewPCG(7, 7))
	for range 150 {
		size, arity := 1+source.Int64N(4), 1+source.Int64N(4)
		var ops []impl.Op
		for range source.IntN(4) {
			some := someOps(size, 1+source.Int64N(3))
			ops = append(ops, some[source.IntN(len(some))])
		}
		var tuples [][]int64
		for range source.IntN(4) {
			tuples = append(tuples, listsOf(size, arity)[source.IntN(len(listsOf(size, arity)))])
		}
		if r, code := impl.ClosureOf(size, arity, ops, tuples); code != impl.OK || len(r.Tuples) > 40 {
			continue
		}
		wantCall(t, "ClosureOf", []any{closureBy(size, arity, ops, tuples), 0}, impl.ClosureOf, size, arity, roomyOps(ops...), roomy(impl.Rel{Tuples: tuples}).Tuples)
	}
	for size := int64(1); size <= 4; size++ {
		constant := []impl.Op{opWhere(size, 3, func([]int64) int64 { return 0 })}
		wantCall(t, "ClosureOf no tuples", []any{"{3 []}", 0}, impl.ClosureOf, size, 3, constant, nil)
		wantCall(t, "ClosureOf no tuples with no operations", []any{"{3 []}", 0}, impl.ClosureOf, size, 3, nil, nil)
	}
	mixed := [][]int64{{1, 0}, {0, 1}, {1, 0}}
	wantCall(t, "ClosureOf with no operations", []any{"{2 [[0 1] [1 0]]}", 0}, impl.ClosureOf, 2, 2, nil, mixed)
	wantCall(t, "ClosureOf", []any{"{2 [[0 0] [0 1] [1 0]]}", 0}, impl.ClosureOf, 2, 2, []impl.Op{leastOf}, mixed)
	// what is made has to be looked at as well, in each place
	turn := unary([]int64{1, 2, 3, 0})
	wantCall(t, "ClosureOf", []any{"{2 [[0 1] [1 2] [2 3] [3 0]]}", 0}, impl.ClosureOf, 4, 2, turn, [][]int64{{2, 3}})
	add := opWhere(4, 2, func(list []int64) int64 { return (list[0] + list[1]) % 4 })
	wantCall(t, "ClosureOf", []any{"{2 [[0 0] [1 3] [2 2] [3 1]]}", 0}, impl.ClosureOf, 4, 2, []impl.Op{add}, [][]int64{{1, 3}})
	// each operation alone closes nothing
	wantCall(t, "ClosureOf", []any{"{1 [[0] [1] [2] [3]]}", 0}, impl.ClosureOf, 4, 1, unary([]int64{1, 0, 2, 3}, []int64{0, 2, 1, 3}, []int64{0, 1, 3, 2}), [][]int64{{0}})
}

func TestClosureIsLeast(t *testing.T) {
	source := rand.New(rand.NewPCG(8, 8))
	for range 60 {
		size := 2 + source.Int64N(2)
		ops := []impl.Op{randomOp(source, size, 1+source.Int64N(3)), randomOp(source, size, 1+source.Int64N(2))}
		r := someRels(size, 2)[source.IntN(9)]
		closure, _ := impl.ClosureOf(size, 2, ops, r.Tuples)
		wantCall(t, "ClosureOf what is closed", []any{closure, 0}, impl.ClosureOf, size, 2, ops, closure.Tuples)
		wantCall(t, "the closure has the tuples", []any{true, 0}, impl.IsPartOf, size, r, closure)
		for _, f := range ops {
			wantCall(t, "the closure is kept", []any{true, 0}, impl.Keeps, size, f, closure)
		}
		for _, other := range someRels(size, 2) {
			part, _ := impl.IsPartOf(size, r, other)
			kept0, _ := impl.Keeps(size, ops[0], other)
			kept1, _ := impl.Keeps(size, ops[1], other)
			if part && kept0 && kept1 {
				wantCall(t, "the closure is the least one", []any{true, 0}, impl.IsPartOf, size, closure, other)
			}
		}
	}
}
