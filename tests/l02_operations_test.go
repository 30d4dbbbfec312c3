package tests

import (
	"fmt"
	"math"
	"math/rand/v2"
	"slices"
	"testing"

	"loop.example/g01085/impl"
)

// noOpArities are numbers that are no arities of operations.
var noOpArities = []int64{0, -1, 4, 5, 1000, math.MaxInt64, math.MinInt64}

// opWhere returns the operation with the values that a function gives the lists.
func opWhere(size, arity int64, gives func(list []int64) int64) impl.Op {
	f := impl.Op{Arity: arity}
	for _, list := range listsOf(size, arity) {
		f.Table = append(f.Table, gives(list))
	}
	return f
}

// given returns the value that an operation gives a list.
func given(size int64, f impl.Op, list []int64) int64 {
	index := int64(0)
	for _, value := range list {
		index = index*size + value
	}
	return f.Table[index]
}

// randomOp returns some operation.
func randomOp(source *rand.Rand, size, arity int64) impl.Op {
	return opWhere(size, arity, func([]int64) int64 { return source.Int64N(size) })
}

// middle returns the value in the middle of three.
func middle(list []int64) int64 {
	sorted := slices.Sorted(slices.Values(list))
	return sorted[len(sorted)/2]
}

// someOps returns operations of a size and an arity: all if there are few,
// otherwise projections, constants, well-known ones, and some others.
func someOps(size, arity int64) []impl.Op {
	cells := int64(len(listsOf(size, arity)))
	var ops []impl.Op
	if math.Pow(float64(size), float64(cells)) <= 27 {
		for _, table := range listsOf(size, cells) {
			ops = append(ops, impl.Op{Arity: arity, Table: table})
		}
		return ops
	}
	for place := range arity {
		ops = append(ops, opWhere(size, arity, func(list []int64) int64 { return list[place] }))
	}
	for value := range size {
		ops = append(ops, opWhere(size, arity, func([]int64) int64 { return value }))
	}
	ops = append(ops, opWhere(size, arity, slices.Min[[]int64]), opWhere(size, arity, slices.Max[[]int64]), opWhere(size, arity, middle))
	ops = append(ops, opWhere(size, arity, func(list []int64) int64 { return (list[0] + list[len(list)-1]) % size }))
	ops = append(ops, opWhere(size, arity, func(list []int64) int64 { return (list[0] + list[len(list)-1] + (size-1)*list[len(list)/2]) % size }))
	source := rand.New(rand.NewPCG(uint64(size), uint64(arity)))
	for range 4 {
		ops = append(ops, randomOp(source, size, arity))
	}
	return ops
}

// eachOp runs a check for operations of all sizes and arities.
func eachOp(check func(size int64, f impl.Op)) {
	for size := int64(1); size <= 4; size++ {
		for arity := int64(1); arity <= 3; arity++ {
			for _, f := range someOps(size, arity) {
				check(size, f)
			}
		}
	}
}

// badOps are operations that are not valid for the size 2.
func badOps() []impl.Op {
	ops := []impl.Op{
		{}, {Arity: 1}, {Arity: 2}, {Arity: 3},
		{Arity: 1, Table: []int64{0}}, {Arity: 1, Table: []int64{0, 1, 0}}, {Arity: 1, Table: []int64{0, 2}}, {Arity: 1, Table: []int64{2, 0}},
		{Arity: 2, Table: []int64{0, 1}}, {Arity: 2, Table: []int64{0, 0, 0}}, {Arity: 2, Table: []int64{0, 0, 0, 1, 0}},
		{Arity: 2, Table: []int64{0, 0, 0, 2}}, {Arity: 2, Table: []int64{2, 0, 0, 0}}, {Arity: 2, Table: []int64{0, 1, 0, 1, 0, 1, 0, 1}},
		{Arity: 3, Table: []int64{0, 1, 0, 1}}, {Arity: 3, Table: make([]int64, 7)}, {Arity: 3, Table: make([]int64, 9)}, {Arity: 3, Table: make([]int64, 27)},
		{Arity: 3, Table: []int64{0, 0, 0, 0, 0, 0, 0, 2}},
	}
	for _, value := range farAway {
		ops = append(ops, impl.Op{Arity: 1, Table: []int64{0, value}}, impl.Op{Arity: 2, Table: []int64{value, 0, 0, 0}})
	}
	for _, arity := range noOpArities {
		ops = append(ops, impl.Op{Arity: arity}, impl.Op{Arity: arity, Table: []int64{0}}, impl.Op{Arity: arity, Table: []int64{0, 1}}, impl.Op{Arity: arity, Table: []int64{0, 0, 0, 1}}, impl.Op{Arity: arity, Table: make([]int64, 16)})
	}
	return ops
}

// roomyOp returns the same operation with a table that has capacity left.
func roomyOp(f impl.Op) impl.Op { return impl.Op{Arity: f.Arity, Table: roomyList(f.Table...)} }

// roomyOps returns the same operations in slices that have capacity left.
func roomyOps(ops ...impl.Op) []impl.Op {
	room := make([]impl.Op, 0, len(ops)+2)
	for _, f := range ops {
		room = append(room, roomyOp(f))
	}
	copy(room[len(room):cap(room)], []impl.Op{{Arity: 9, Table: []int64{9}}, {Arity: 8}})
	return room
}

// leastOf is the operation of the example of chapter 2.
var leastOf = impl.Op{Arity: 2, Table: []int64{0, 0, 0, 1}}

func TestExampleOfChapter2(t *testing.T) {
	wantCall(t, "KindsOf", []any{[]int64{impl.KdIdempotent, impl.KdConservative, impl.KdCommutative, impl.KdSemilattice, impl.KdSymmetric}, 0}, impl.KindsOf, 2, leastOf)
	order := impl.Rel{Arity: 2, Tuples: [][]int64{{0, 0}, {0, 1}, {1, 1}}}
	other := impl.Rel{Arity: 2, Tuples: [][]int64{{0, 1}, {1, 0}}}
	wantCall(t, "Keeps", []any{true, 0}, impl.Keeps, 2, leastOf, order)
	wantCall(t, "Keeps", []any{false, 0}, impl.Keeps, 2, leastOf, other)
	wantCall(t, "BreakingTuples", []any{"[[0 1] [1 0]]", "[0 0]", 0}, impl.BreakingTuples, 2, leastOf, other)
	wantCall(t, "CloneUpTo", []any{"[{2 [0 0 0 1]} {2 [0 0 1 1]} {2 [0 1 0 1]}]", 0}, impl.CloneUpTo, 2, 2, []impl.Op{leastOf})
}

func TestNumbersOfChapter2(t *testing.T) {
	same(t, "limits", []int64{impl.MaxOpArity, impl.MaxOps}, []int64{3, 64})
	kinds := []int64{impl.KdProjection, impl.KdConstant, impl.KdIdempotent, impl.KdConservative, impl.KdCommutative, impl.KdSemilattice, impl.KdMajority, impl.KdMinority, impl.KdMaltsev, impl.KdSymmetric}
	same(t, "kinds", kinds, []int64{1, 2, 3, 4, 5, 6, 7, 8, 9, 10})
}

func TestValidOp(t *testing.T) {
	eachOp(func(size int64, f impl.Op) {
		for other := int64(1); other <= 4; other++ {
			wantCall(t, "ValidOp", []any{other == size}, impl.ValidOp, other, f)
		}
		for _, none := range noSizes {
			wantCall(t, "ValidOp", []any{false}, impl.ValidOp, none, f)
		}
		for _, arity := range append(noOpArities, f.Arity%3+1) {
			fits := size == 1 && 1 <= arity && arity <= 3
			wantCall(t, "ValidOp", []any{fits}, impl.ValidOp, size, impl.Op{Arity: arity, Table: f.Table})
		}
		wantCall(t, "ValidOp", []any{true}, impl.ValidOp, size, roomyOp(f))
		wantCall(t, "ValidOp", []any{false}, impl.ValidOp, size, impl.Op{Arity: f.Arity, Table: f.Table[1:]})
		wantCall(t, "ValidOp", []any{false}, impl.ValidOp, size, impl.Op{Arity: f.Arity, Table: append(slices.Clone(f.Table), 0)})
		for i := range f.Table {
			for _, value := range append(farAway, size) {
				table := slices.Clone(f.Table)
				table[i] = value
				wantCall(t, "ValidOp", []any{false}, impl.ValidOp, size, impl.Op{Arity: f.Arity, Table: table})
			}
		}
	})
	for _, bad := range badOps() {
		wantCall(t, "ValidOp", []any{false}, impl.ValidOp, 2, bad)
	}
	wantCall(t, "ValidOp", []any{false}, impl.ValidOp, 0, impl.Op{Arity: 1})
	wantCall(t, "ValidOp", []any{false}, impl.ValidOp, 5, impl.Op{Arity: 1, Table: []int64{0, 1, 2, 3, 4}})
	wantCall(t, "ValidOp", []any{false}, impl.ValidOp, 2, impl.Op{Arity: 4, Table: make([]int64, 16)})
	wantCall(t, "ValidOp", []any{false}, impl.ValidOp, 2, impl.Op{Arity: 0, Table: []int64{0}})
}

func TestSameOp(t *testing.T) {
	ops := append(badOps(), append(someOps(2, 2), someOps(1, 2)...)...)
	for _, f := range ops {
		for _, g := range ops {
			wantCall(t, "SameOp", []any{fmt.Sprint(f) == fmt.Sprint(g)}, impl.SameOp, f, g)
		}
		wantCall(t, "SameOp", []any{true}, impl.SameOp, f, roomyOp(f))
	}
	wantCall(t, "SameOp", []any{true}, impl.SameOp, impl.Op{Arity: 7}, impl.Op{Arity: 7, Table: []int64{}})
	wantCall(t, "SameOp", []any{false}, impl.SameOp, impl.Op{Arity: 1, Table: []int64{0}}, impl.Op{Arity: 2, Table: []int64{0}})
	wantCall(t, "SameOp", []any{false}, impl.SameOp, impl.Op{Arity: 1, Table: []int64{0}}, impl.Op{Arity: 1, Table: []int64{0, 0}})
}

func TestProjectionAndConstantOp(t *testing.T) {
	for size := int64(1); size <= 4; size++ {
		for arity := int64(1); arity <= 3; arity++ {
			for place := range arity {
				want := opWhere(size, arity, func(list []int64) int64 { return list[place] })
				wantCall(t, "ProjectionOp", []any{want, 0}, impl.ProjectionOp, size, arity, place)
			}
			for value := range size {
				want := opWhere(size, arity, func([]int64) int64 { return value })
				wantCall(t, "ConstantOp", []any{want, 0}, impl.ConstantOp, size, arity, value)
			}
			for _, none := range farAway {
				wantCode(t, "ProjectionOp", impl.ErrRange, impl.ProjectionOp, size, arity, none)
				wantCode(t, "ConstantOp", impl.ErrRange, impl.ConstantOp, size, arity, none)
			}
			wantCode(t, "ProjectionOp", impl.ErrRange, impl.ProjectionOp, size, arity, arity)
			wantCode(t, "ConstantOp", impl.ErrRange, impl.ConstantOp, size, arity, size)
		}
		for _, arity := range noOpArities {
			wantCode(t, "ProjectionOp", impl.ErrRange, impl.ProjectionOp, size, arity, 0)
			wantCode(t, "ConstantOp", impl.ErrRange, impl.ConstantOp, size, arity, 0)
		}
	}
	for _, size := range noSizes {
		wantCode(t, "ProjectionOp", impl.ErrInvalid, impl.ProjectionOp, size, 2, 0)
		wantCode(t, "ProjectionOp", impl.ErrInvalid, impl.ProjectionOp, size, 0, 9)
		wantCode(t, "ConstantOp", impl.ErrInvalid, impl.ConstantOp, size, 2, 0)
		wantCode(t, "ConstantOp", impl.ErrInvalid, impl.ConstantOp, size, 4, -1)
	}
}

// notLists are lists that are none of the length 2 of values of the size 2.
func notLists() [][]int64 {
	lists := [][]int64{nil, {}, {0}, {0, 0, 0}, {0, 1, 0, 1}, {0, 2}, {2, 0}, {-1, 0}}
	for _, value := range farAway {
		lists = append(lists, []int64{0, value}, []int64{value, 1})
	}
	return lists
}

func TestApplyOp(t *testing.T) {
	eachOp(func(size int64, f impl.Op) {
		for i, list := range listsOf(size, f.Arity) {
			wantCall(t, "ApplyOp", []any{f.Table[i], 0}, impl.ApplyOp, size, roomyOp(f), roomyList(list...))
		}
	})
	for _, list := range notLists() {
		wantCode(t, "ApplyOp", impl.ErrRange, impl.ApplyOp, 2, impl.Op{Arity: 2, Table: []int64{1, 1, 1, 1}}, list)
	}
}

func TestComposeOps(t *testing.T) {
	source := rand.New(rand.NewPCG(2, 1))
	eachOp(func(size int64, f impl.Op) {
		for arity := int64(1); arity <= 3; arity++ {
			var list []impl.Op
			for range f.Arity {
				list = append(list, randomOp(source, size, arity))
			}
			want := opWhere(size, arity, func(values []int64) int64 {
				var between []int64
				for _, g := range list {
					between = append(between, given(size, g, values))
				}
				return given(size, f, between)
			})
			wantCall(t, "ComposeOps", []any{want, 0}, impl.ComposeOps, size, roomyOp(f), roomyOps(list...))
		}
	})
	first, second := impl.Op{Arity: 1, Table: []int64{1, 0}}, impl.Op{Arity: 2, Table: []int64{0, 1, 1, 0}}
	for _, list := range [][]impl.Op{nil, {}, {second}, {second, second, second}, {first, second, second}, {first}} {
		wantCode(t, "ComposeOps", impl.ErrRange, impl.ComposeOps, 2, leastOf, list)
	}
	wantCode(t, "ComposeOps", impl.ErrState, impl.ComposeOps, 2, leastOf, []impl.Op{first, second})
	wantCode(t, "ComposeOps", impl.ErrState, impl.ComposeOps, 2, leastOf, []impl.Op{second, first})
	third := opWhere(2, 3, middle)
	wantCode(t, "ComposeOps", impl.ErrState, impl.ComposeOps, 2, third, []impl.Op{first, first, second})
	wantCode(t, "ComposeOps", impl.ErrState, impl.ComposeOps, 2, third, []impl.Op{third, second, third})
	// of the size 1 all tables of one arity are alike, but arities still differ
	wantCode(t, "ComposeOps", impl.ErrState, impl.ComposeOps, 1, impl.Op{Arity: 2, Table: []int64{0}}, []impl.Op{{Arity: 1, Table: []int64{0}}, {Arity: 2, Table: []int64{0}}})
	for _, bad := range badOps() {
		for _, list := range [][]impl.Op{{bad}, {second, bad}, {bad, second}, {first, bad}, {second, second, bad}} {
			wantCode(t, "ComposeOps", impl.ErrInvalid, impl.ComposeOps, 2, leastOf, list)
		}
	}
}

func TestMinorOf(t *testing.T) {
	eachOp(func(size int64, f impl.Op) {
		for arity := int64(1); arity <= 3; arity++ {
			for _, places := range listsOf(arity, f.Arity) {
				want := opWhere(size, arity, func(list []int64) int64 { return given(size, f, at(list, places)) })
				wantCall(t, "MinorOf", []any{want, 0}, impl.MinorOf, size, roomyOp(f), arity, roomyList(places...))
			}
		}
	})
	for _, places := range notLists() {
		wantCode(t, "MinorOf", impl.ErrRange, impl.MinorOf, 2, leastOf, 2, places)
	}
	for _, arity := range noOpArities {
		wantCode(t, "MinorOf", impl.ErrRange, impl.MinorOf, 2, leastOf, arity, []int64{0, 0})
	}
	wantCode(t, "MinorOf", impl.ErrRange, impl.MinorOf, 2, leastOf, 1, []int64{0, 1})
	wantCall(t, "MinorOf", []any{"{3 [0 0 0 0 0 1 0 1]}", 0}, impl.MinorOf, 2, leastOf, 3, []int64{2, 0})
}

// projectionsOf returns all projections of an arity.
func projectionsOf(size, arity int64) []impl.Op {
	var list []impl.Op
	for place := range arity {
		list = append(list, opWhere(size, arity, func(values []int64) int64 { return values[place] }))
	}
	return list
}

func TestMinorsAreCompositionsWithProjections(t *testing.T) {
	eachOp(func(size int64, f impl.Op) {
		for arity := int64(1); arity <= 3; arity++ {
			projections := projectionsOf(size, arity)
			for _, places := range listsOf(arity, f.Arity) {
				var list []impl.Op
				for _, place := range places {
					list = append(list, projections[place])
				}
				minor, _ := impl.MinorOf(size, f, arity, places)
				wantCall(t, "ComposeOps with projections", []any{minor, 0}, impl.ComposeOps, size, f, list)
			}
		}
	})
	source := rand.New(rand.NewPCG(2, 2))
	for range 20 {
		list := []impl.Op{randomOp(source, 3, 2), randomOp(source, 3, 2), randomOp(source, 3, 2)}
		for place, projection := range projectionsOf(3, 3) {
			wantCall(t, "ComposeOps of a projection", []any{list[place], 0}, impl.ComposeOps, 3, projection, list)
		}
	}
}

func TestDependsOn(t *testing.T) {
	eachOp(func(size int64, f impl.Op) {
		var want []int64
		for place := range f.Arity {
			if dependsThere(size, f, place) {
				want = append(want, place)
			}
		}
		wantCall(t, "DependsOn", []any{want, 0}, impl.DependsOn, size, roomyOp(f))
	})
	// only one list has another value
	for size := int64(2); size <= 4; size++ {
		for i := range listsOf(size, 3) {
			f := impl.Op{Arity: 3, Table: make([]int64, size*size*size)}
			f.Table[i] = size - 1
			wantCall(t, "DependsOn", []any{"[0 1 2]", 0}, impl.DependsOn, size, f)
		}
	}
	wantCall(t, "DependsOn", []any{"[1]", 0}, impl.DependsOn, 3, opWhere(3, 3, func(list []int64) int64 { return list[1] / 2 }))
	wantCall(t, "DependsOn", []any{"[0 2]", 0}, impl.DependsOn, 3, opWhere(3, 3, func(list []int64) int64 { return max(list[0], list[2]) }))
}

// dependsThere tells by the definition whether an operation depends on a place.
func dependsThere(size int64, f impl.Op, place int64) bool {
	for _, list := range listsOf(size, f.Arity) {
		for value := range size {
			other := slices.Clone(list)
			other[place] = value
			if given(size, f, list) != given(size, f, other) {
				return true
			}
		}
	}
	return false
}
