package tests

import (
	"fmt"
	"math"
	"math/rand/v2"
	"slices"
	"testing"

	"loop.example/g01085/impl"
)

// ordersOf returns all orders of a list.
func ordersOf(list []int64) [][]int64 {
	if len(list) == 0 {
		return [][]int64{{}}
	}
	var orders [][]int64
	for i := range list {
		rest := slices.Delete(slices.Clone(list), i, i+1)
		for _, order := range ordersOf(rest) {
			orders = append(orders, append([]int64{list[i]}, order...))
		}
	}
	return orders
}

// onAll reports whether a law holds for all values x, y, z.
func onAll(size int64, law func(x, y, z int64) bool) bool {
	for _, values := range listsOf(size, 3) {
		if !law(values[0], values[1], values[2]) {
			return false
		}
	}
	return true
}

// onPairs reports whether an operation has the arity 3, and gives x, x, y; x, y,
// x and y, x, x the values that are wanted ("x" or "y", or "." for any).
func onPairs(size int64, f impl.Op, wanted string) bool {
	if f.Arity != 3 {
		return false
	}
	return onAll(size, func(x, y, _ int64) bool {
		for i, list := range [][]int64{{x, x, y}, {x, y, x}, {y, x, x}} {
			value := given(size, f, list)
			if wanted[i] == 'x' && value != x || wanted[i] == 'y' && value != y {
				return false
			}
		}
		return true
	})
}

// onLists reports whether a law holds for all lists and their values.
func onLists(size int64, f impl.Op, law func(list []int64, value int64) bool) bool {
	for i, list := range listsOf(size, f.Arity) {
		if !law(list, f.Table[i]) {
			return false
		}
	}
	return true
}

// isKind tells by the definition whether an operation is of a kind.
func isKind(size int64, f impl.Op, kind int64) bool {
	switch kind {
	case impl.KdProjection:
		return slices.ContainsFunc(projectionsOf(size, f.Arity), func(p impl.Op) bool { return fmt.Sprint(p) == fmt.Sprint(f) })
	case impl.KdConstant:
		return onLists(size, f, func(_ []int64, value int64) bool { return value == f.Table[0] })
	case impl.KdIdempotent:
		return onLists(size, f, func(list []int64, value int64) bool {
			return slices.Min(list) != slices.Max(list) || value == list[0]
		})
	case impl.KdConservative:
		return onLists(size, f, func(list []int64, value int64) bool { return slices.Contains(list, value) })
	case impl.KdCommutative:
		return f.Arity == 2 && onAll(size, func(x, y, _ int64) bool { return f.Table[x*size+y] == f.Table[y*size+x] })
	case impl.KdSemilattice:
		return isKind(size, f, impl.KdIdempotent) && isKind(size, f, impl.KdCommutative) && onAll(size, func(x, y, z int64) bool {
			return f.Table[f.Table[x*size+y]*size+z] == f.Table[x*size+f.Table[y*size+z]]
		})
	case impl.KdMajority:
		return onPairs(size, f, "xxx")
	case impl.KdMinority:
		return onPairs(size, f, "yyy")
	case impl.KdMaltsev:
		return onPairs(size, f, "y.y")
	case impl.KdSymmetric:
		return onLists(size, f, func(list []int64, value int64) bool {
			return !slices.ContainsFunc(ordersOf(list), func(order []int64) bool { return given(size, f, order) != value })
		})
	}
	return false
}

// checkKinds compares the kinds of an operation with the definition.
func checkKinds(t *testing.T, size int64, f impl.Op) {
	t.Helper()
	var kinds []int64
	for kind := int64(1); kind <= 10; kind++ {
		of := isKind(size, f, kind)
		if of {
			kinds = append(kinds, kind)
		}
		got, code := impl.IsOfKind(size, f, kind)
		if got != of || code != impl.OK {
			t.Errorf("IsOfKind of %d, %v and %d: %v %d", size, f, kind, got, code)
		}
	}
	got, code := impl.KindsOf(size, f)
	if !slices.Equal(got, kinds) || code != impl.OK {
		t.Errorf("KindsOf of %d and %v: %v %d, want %v", size, f, got, code, kinds)
	}
}

// checkNear compares the kinds of an operation, and of all that differ from it
// in one value, with the definition.
func checkNear(t *testing.T, size int64, f impl.Op) {
	t.Helper()
	checkKinds(t, size, f)
	for i := range f.Table {
		for value := range size {
			near := impl.Op{Arity: f.Arity, Table: slices.Clone(f.Table)}
			near.Table[i] = value
			checkKinds(t, size, near)
		}
	}
}

func TestKindsByDefinition(t *testing.T) {
	eachOp(func(size int64, f impl.Op) { checkNear(t, size, f) })
	// all operations of the arities 2 and 3 on two values, and 2 on three
	for _, table := range listsOf(2, 8) {
		checkKinds(t, 2, impl.Op{Arity: 3, Table: table})
	}
	for i, table := range listsOf(3, 9) {
		if i%3 == 0 {
			checkKinds(t, 3, impl.Op{Arity: 2, Table: table})
		}
	}
	wantCall(t, "IsOfKind", []any{true, 0}, impl.IsOfKind, 2, roomyOp(leastOf), impl.KdSemilattice)
	wantCall(t, "KindsOf", []any{"[3 4 5 6 10]", 0}, impl.KindsOf, 2, roomyOp(leastOf))
	wantCall(t, "KindsOf", []any{"[]", 0}, impl.KindsOf, 2, impl.Op{Arity: 2, Table: []int64{1, 1, 0, 0}})
}

// pairValue gives lists of three values, of which two are equal, what a word
// wants ("x" the value that comes twice, "y" the other one), and others a value.
func pairValue(list []int64, wanted string, other int64) int64 {
	for i, place := range []int{2, 1, 0} {
		x, y := list[(place+1)%3], list[place]
		if x == list[(place+2)%3] {
			if wanted[i] == 'x' {
				return x
			}
			return y
		}
	}
	return other
}

func TestEachKind(t *testing.T) {
	for size := int64(2); size <= 4; size++ {
		last := size - 1
		of := map[int64][]impl.Op{
			impl.KdProjection:   slices.Concat(projectionsOf(size, 1), projectionsOf(size, 2), projectionsOf(size, 3)),
			impl.KdIdempotent:   {opWhere(size, 2, func(list []int64) int64 { return (2*size + 2*list[0] - list[1]) % size })},
			impl.KdConservative: {opWhere(size, 3, middle), opWhere(size, 2, slices.Max[[]int64])},
			impl.KdCommutative:  {opWhere(size, 2, func(list []int64) int64 { return (list[0] + list[1] + 1) % size })},
			impl.KdSemilattice:  {opWhere(size, 2, slices.Min[[]int64]), opWhere(size, 2, slices.Max[[]int64])},
			impl.KdMajority:     {opWhere(size, 3, middle), opWhere(size, 3, func(list []int64) int64 { return pairValue(list, "xxx", last) })},
			impl.KdMinority:     {opWhere(size, 3, func(list []int64) int64 { return pairValue(list, "yyy", last) })},
			impl.KdMaltsev:      {opWhere(size, 3, func(list []int64) int64 { return (size + list[0] - list[1] + list[2]) % size }), opWhere(size, 3, func(list []int64) int64 { return pairValue(list, "yxy", 0) })},
			impl.KdSymmetric:    {opWhere(size, 3, func(list []int64) int64 { return (list[0] + list[1] + list[2]) % size }), opWhere(size, 2, slices.Min[[]int64])},
		}
		for value := range size {
			for arity := int64(1); arity <= 3; arity++ {
				of[impl.KdConstant] = append(of[impl.KdConstant], opWhere(size, arity, func([]int64) int64 { return value }))
			}
		}
		for kind := int64(1); kind <= 10; kind++ {
			for _, f := range of[kind] {
				wantCall(t, "IsOfKind", []any{true, 0}, impl.IsOfKind, size, f, kind)
				checkNear(t, size, f)
			}
		}
	}
}

func TestNotQuiteOfAKind(t *testing.T) {
	rock := impl.Op{Arity: 2, Table: []int64{0, 1, 0, 1, 1, 2, 0, 2, 2}}
	for _, c := range []struct {
		name string
		size int64
		f    impl.Op
		kind int64
	}{
		{"two places mixed", 2, impl.Op{Arity: 3, Table: []int64{0, 0, 1, 1, 0, 0, 1, 0}}, impl.KdProjection},
		{"the other value", 2, impl.Op{Arity: 1, Table: []int64{1, 0}}, impl.KdProjection},
		{"constant but for the last list", 2, impl.Op{Arity: 2, Table: []int64{0, 0, 0, 1}}, impl.KdConstant},
		{"constant but for the first list", 2, impl.Op{Arity: 2, Table: []int64{0, 1, 1, 1}}, impl.KdConstant},
		{"not idempotent at the last value", 3, opWhere(3, 3, func(list []int64) int64 { return min(middle(list), 1) }), impl.KdIdempotent},
		{"idempotent, but with a third value", 3, opWhere(3, 2, func(list []int64) int64 { return (6 - list[0] - list[1]) % 3 }), impl.KdConservative},
		{"commutative in all lists but those of 1 and 2", 3, impl.Op{Arity: 2, Table: []int64{0, 0, 0, 0, 1, 1, 0, 2, 2}}, impl.KdCommutative},
		{"symmetric, of the arity 3", 2, opWhere(2, 3, middle), impl.KdCommutative},
		{"of the arity 1", 2, impl.Op{Arity: 1, Table: []int64{0, 1}}, impl.KdCommutative},
		{"idempotent and commutative, not associative", 3, rock, impl.KdSemilattice},
		{"commutative and associative, not idempotent", 2, impl.Op{Arity: 2, Table: []int64{0, 1, 1, 0}}, impl.KdSemilattice},
		{"idempotent and associative, not commutative", 2, impl.Op{Arity: 2, Table: []int64{0, 0, 1, 1}}, impl.KdSemilattice},
		{"the arity 3", 2, opWhere(2, 3, slices.Min[[]int64]), impl.KdSemilattice},
		{"the last place decides", 3, opWhere(3, 3, func(list []int64) int64 { return pairValue(list, "xxy", 0) }), impl.KdMajority},
		{"the place in the middle decides", 3, opWhere(3, 3, func(list []int64) int64 { return pairValue(list, "xyx", 0) }), impl.KdMajority},
		{"the first place decides", 3, opWhere(3, 3, func(list []int64) int64 { return pairValue(list, "yxx", 0) }), impl.KdMajority},
		{"x in the last place", 3, opWhere(3, 3, func(list []int64) int64 { return pairValue(list, "xyy", 0) }), impl.KdMinority},
		{"x in the middle", 3, opWhere(3, 3, func(list []int64) int64 { return pairValue(list, "yxy", 0) }), impl.KdMinority},
		{"x in the first place", 3, opWhere(3, 3, func(list []int64) int64 { return pairValue(list, "yyx", 0) }), impl.KdMinority},
		{"x, x, y gives x", 3, opWhere(3, 3, func(list []int64) int64 { return pairValue(list, "xyy", 0) }), impl.KdMaltsev},
		{"y, x, x gives x", 3, opWhere(3, 3, func(list []int64) int64 { return pairValue(list, "yyx", 0) }), impl.KdMaltsev},
		{"the arity 2", 2, impl.Op{Arity: 2, Table: []int64{0, 1, 1, 0}}, impl.KdMaltsev},
		{"the first two places can be changed, the last one not", 2, opWhere(2, 3, func(list []int64) int64 { return min(list[0], list[1]) * (1 - list[2]) }), impl.KdSymmetric},
		{"only turns keep it", 3, opWhere(3, 3, func(list []int64) int64 {
			if slices.Contains([]string{"[0 1 2]", "[1 2 0]", "[2 0 1]"}, fmt.Sprint(list)) {
				return 1
			}
			return 0
		}), impl.KdSymmetric},
	} {
		got := call(t, impl.IsOfKind, c.size, c.f, c.kind)
		same(t, fmt.Sprint(c.name, ", ", c.kind), got, []any{false, 0})
	}
	wantCall(t, "IsOfKind", []any{true, 0}, impl.IsOfKind, 3, rock, impl.KdCommutative)
	wantCall(t, "IsOfKind", []any{true, 0}, impl.IsOfKind, 3, rock, impl.KdIdempotent)
}

func TestKindsOfOneValue(t *testing.T) {
	wantCall(t, "KindsOf", []any{"[1 2 3 4 10]", 0}, impl.KindsOf, 1, impl.Op{Arity: 1, Table: []int64{0}})
	wantCall(t, "KindsOf", []any{"[1 2 3 4 5 6 10]", 0}, impl.KindsOf, 1, impl.Op{Arity: 2, Table: []int64{0}})
	wantCall(t, "KindsOf", []any{"[1 2 3 4 7 8 9 10]", 0}, impl.KindsOf, 1, impl.Op{Arity: 3, Table: []int64{0}})
}

func TestKindsThatAreNone(t *testing.T) {
	for _, kind := range []int64{0, 11, -1, 12, 100, math.MaxInt64, math.MinInt64} {
		eachOp(func(size int64, f impl.Op) { wantCode(t, "IsOfKind", impl.ErrRange, impl.IsOfKind, size, f, kind) })
		for _, bad := range badOps() {
			wantCode(t, "IsOfKind", impl.ErrInvalid, impl.IsOfKind, 2, bad, kind)
		}
	}
}

func TestRandomKinds(t *testing.T) {
	source := rand.New(rand.NewPCG(3, 3))
	for range 200 {
		size := 2 + source.Int64N(3)
		f := opWhere(size, 3, func(list []int64) int64 {
			return pairValue(list, []string{"xxx", "yyy", "yxy"}[source.IntN(3)], source.Int64N(size))
		})
		checkKinds(t, size, f)
	}
}
