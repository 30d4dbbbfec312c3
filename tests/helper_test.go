package tests

import (
	"fmt"
	"math"
	"math/rand/v2"
	"reflect"
	"strings"
	"testing"

	"loop.example/g01085/impl"
)

// noSizes are numbers that are no sizes, noArities numbers that are no arities,
// and farAway numbers that are neither values nor places.
var (
	noSizes   = []int64{0, -1, 5, 1000, math.MaxInt64, math.MinInt64}
	noArities = []int64{0, -1, 5, 1000, math.MaxInt64, math.MinInt64}
	farAway   = []int64{-1, 1000, math.MaxInt64, math.MinInt64}
)

// tupleKey tells a tuple of at most 4 values from all others.
type tupleKey [5]int64

func keyOf(tuple []int64) tupleKey {
	k := tupleKey{int64(len(tuple))}
	copy(k[1:], tuple)
	return k
}

func setOf(r impl.Rel) map[tupleKey]bool {
	set := map[tupleKey]bool{}
	for _, tuple := range r.Tuples {
		set[keyOf(tuple)] = true
	}
	return set
}

// listsOf returns all lists of length numbers below limit, in order.
func listsOf(limit, length int64) [][]int64 {
	lists := [][]int64{{}}
	for range length {
		var longer [][]int64
		for _, list := range lists {
			for number := range limit {
				longer = append(longer, append(append([]int64{}, list...), number))
			}
		}
		lists = longer
	}
	return lists
}

// relWhere returns the relation of the tuples that a function wants.
func relWhere(size, arity int64, wanted func(tuple []int64) bool) impl.Rel {
	r := impl.Rel{Arity: arity}
	for _, tuple := range listsOf(size, arity) {
		if wanted(tuple) {
			r.Tuples = append(r.Tuples, tuple)
		}
	}
	return r
}

// at returns the values of a tuple at some places.
func at(tuple, places []int64) []int64 {
	var values []int64
	for _, place := range places {
		values = append(values, tuple[place])
	}
	return values
}

// allRels returns all relations of a size and an arity.
func allRels(size, arity int64) []impl.Rel {
	var rels []impl.Rel
	for mask := range 1 << len(listsOf(size, arity)) {
		i := -1
		rels = append(rels, relWhere(size, arity, func([]int64) bool { i++; return mask>>i&1 == 1 }))
	}
	return rels
}

// someRels returns relations of a size and an arity: all if there are few,
// otherwise the extreme ones and some others.
func someRels(size, arity int64) []impl.Rel {
	lists := listsOf(size, arity)
	if len(lists) <= 4 {
		return allRels(size, arity)
	}
	var rels []impl.Rel
	source := rand.New(rand.NewPCG(uint64(size), uint64(arity)))
	for _, percent := range []int{0, 5, 20, 50, 90, 100} {
		rels = append(rels, relWhere(size, arity, func([]int64) bool { return source.IntN(100) < percent }))
	}
	first, last := lists[0], lists[len(lists)-1]
	return append(rels, impl.Rel{Arity: arity, Tuples: [][]int64{first}}, impl.Rel{Arity: arity, Tuples: [][]int64{last}}, impl.Rel{Arity: arity, Tuples: [][]int64{first, last}})
}

// eachRel runs a check for relations of all sizes and arities.
func eachRel(check func(size int64, r impl.Rel)) {
	for size := int64(1); size <= 4; size++ {
		for arity := int64(1); arity <= 4; arity++ {
			for _, r := range someRels(size, arity) {
				check(size, r)
			}
		}
	}
}

// badRels are relations that are not valid for the size 2.
func badRels() []impl.Rel {
	rels := []impl.Rel{
		{Arity: 2, Tuples: [][]int64{{0}}},
		{Arity: 2, Tuples: [][]int64{{0, 1, 0}}},
		{Arity: 2, Tuples: [][]int64{{}}},
		{Arity: 2, Tuples: [][]int64{nil}},
		{Arity: 2, Tuples: [][]int64{{0, 1}, {1}}},
		{Arity: 2, Tuples: [][]int64{{1, 0}, {0, 1}}},
		{Arity: 2, Tuples: [][]int64{{0, 1}, {0, 0}}},
		{Arity: 2, Tuples: [][]int64{{0, 1}, {0, 1}}},
		{Arity: 2, Tuples: [][]int64{{0, 0}, {0, 1}, {1, 1}, {1, 0}}},
		{Arity: 1, Tuples: [][]int64{{0}, {2}}},
		{Arity: 2, Tuples: [][]int64{{0, 2}}},
	}
	for _, value := range farAway {
		rels = append(rels, impl.Rel{Arity: 2, Tuples: [][]int64{{0, value}}}, impl.Rel{Arity: 1, Tuples: [][]int64{{value}}})
	}
	for _, arity := range noArities {
		rels = append(rels, impl.Rel{Arity: arity}, impl.Rel{Arity: arity, Tuples: [][]int64{{0, 1}}})
	}
	return append(rels, impl.Rel{Arity: 0, Tuples: [][]int64{{}}}, impl.Rel{Arity: 5, Tuples: [][]int64{{0, 0, 0, 0, 0}}})
}

// same checks that a value is the wanted one; nil and empty slices are equal.
func same(t *testing.T, name string, got, want any) {
	t.Helper()
	g, w := fmt.Sprintf("%v", got), fmt.Sprintf("%v", want)
	if g != w {
		t.Errorf("%s: got %s, want %s", name, g, w)
	}
}

// snapshot writes a value down, with the unused capacity of its slices.
func snapshot(v reflect.Value) string {
	switch v.Kind() {
	case reflect.Slice:
		var b strings.Builder
		fmt.Fprintf(&b, "[%d/%d:", v.Len(), v.Cap())
		for i := range v.Cap() {
			b.WriteString(" " + snapshot(v.Slice(0, v.Cap()).Index(i)))
		}
		return b.String() + "]"
	case reflect.Struct:
		var b strings.Builder
		for i := range v.NumField() {
			b.WriteString(" " + snapshot(v.Field(i)))
		}
		return "{" + b.String() + "}"
	}
	return fmt.Sprint(v.Interface())
}

// memory lists the beginnings and ends of the memory of all slices of a value.
func memory(v reflect.Value) [][2]uintptr {
	var list [][2]uintptr
	switch v.Kind() {
	case reflect.Slice:
		if v.Cap() > 0 {
			list = append(list, [2]uintptr{v.Pointer(), v.Pointer() + uintptr(v.Cap())*v.Type().Elem().Size()})
		}
		for i := range v.Len() {
			list = append(list, memory(v.Index(i))...)
		}
	case reflect.Struct:
		for i := range v.NumField() {
			list = append(list, memory(v.Field(i))...)
		}
	}
	return list
}

// apart reports whether no piece of memory of a list overlaps another one of it,
// or a known one.
func apart(known, list [][2]uintptr) bool {
	for i, a := range list {
		for _, b := range known {
			if a[0] < b[1] && b[0] < a[1] {
				return false
			}
		}
		for _, b := range list[:i] {
			if a[0] < b[1] && b[0] < a[1] {
				return false
			}
		}
	}
	return true
}

func isZero(v reflect.Value) bool {
	if v.Kind() == reflect.Slice {
		return v.Len() == 0
	}
	if v.Kind() == reflect.Struct {
		for i := range v.NumField() {
			if !isZero(v.Field(i)) {
				return false
			}
		}
		return true
	}
	return v.IsZero()
}

func memoryOf(list []reflect.Value) [][2]uintptr {
	var all [][2]uintptr
	for _, v := range list {
		all = append(all, memory(v)...)
	}
	return all
}

func snapshotOf(list []reflect.Value) string {
	var b strings.Builder
	for _, v := range list {
		b.WriteString(snapshot(v) + "\n")
	}
	return b.String()
}

// tellsMore reports whether the result ahead of a code other than OK need not be
// zero: the index of a step or a line, ahead of ErrProof, and how many steps a
// search has made.
func tellsMore(f any, code int64) bool {
	isSearch := reflect.ValueOf(f).Pointer() == reflect.ValueOf(impl.SearchFor).Pointer()
	return code == impl.ErrProof || isSearch && code == impl.ErrNotFound
}

// call calls a function twice, and checks what holds for all functions: the
// arguments are not changed, the results are equal and have memory of their
// own, and all others are zero if the last one is a code other than OK (but for
// what tellsMore allows). It returns the results.
func call(t *testing.T, f any, args ...any) []any {
	t.Helper()
	var in []reflect.Value
	for i, arg := range args {
		v := reflect.ValueOf(arg)
		if arg == nil {
			v = reflect.Zero(reflect.TypeOf(f).In(i))
		}
		in = append(in, v.Convert(reflect.TypeOf(f).In(i)))
	}
	before := snapshotOf(in)
	known := memoryOf(in)
	out, again := reflect.ValueOf(f).Call(in), reflect.ValueOf(f).Call(in)
	if snapshotOf(in) != before {
		t.Fatalf("arguments changed: %s became %s", before, snapshotOf(in))
	}
	var results []any
	last := out[len(out)-1]
	for i, v := range out {
		results = append(results, v.Interface())
		same(t, "second call", again[i].Interface(), v.Interface())
		isIndex := i == len(out)-2 && last.CanInt() && tellsMore(f, last.Int())
		if len(out) > 1 && last.Int() != impl.OK && i < len(out)-1 && !isIndex && !isZero(v) {
			t.Errorf("result %d beside the code %d is %v", i, last.Int(), v)
		}
	}
	if !apart(known, append(memoryOf(out), memoryOf(again)...)) {
		t.Errorf("results of %v share memory", args)
	}
	return results
}

// wantCall calls a function, and checks its results.
func wantCall(t *testing.T, name string, want []any, f any, args ...any) {
	t.Helper()
	same(t, fmt.Sprint(name, " of ", args), call(t, f, args...), want)
}

// wantCode calls a function, and checks its code.
func wantCode(t *testing.T, name string, want int64, f any, args ...any) {
	t.Helper()
	results := call(t, f, args...)
	same(t, fmt.Sprint("code of ", name, " of ", args), results[len(results)-1], want)
}

// roomy returns a relation with the same tuples whose slices have capacity left.
func roomy(r impl.Rel) impl.Rel {
	tuples := make([][]int64, 0, len(r.Tuples)+2)
	for _, tuple := range r.Tuples {
		room := append(make([]int64, 0, len(tuple)+3), tuple...)
		copy(room[len(room):cap(room)], []int64{7, 7, 7})
		tuples = append(tuples, room)
	}
	room := tuples[:len(tuples)+2]
	room[len(tuples)], room[len(tuples)+1] = []int64{9, 9}, []int64{8}
	return impl.Rel{Arity: r.Arity, Tuples: tuples}
}

// roomyList returns the same list with capacity left.
func roomyList(list ...int64) []int64 {
	room := append(make([]int64, 0, len(list)+2), list...)
	copy(room[len(room):cap(room)], []int64{6, 6})
	return room
}
