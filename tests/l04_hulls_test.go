package tests

import (
	"fmt"
	"math/rand/v2"
	"slices"
	"testing"

	"loop.example/g01085/impl"
)

// columns returns for each place of some tuples the list of their values there.
func columns(tuples [][]int64) [][]int64 {
	var lists [][]int64
	for place := range tuples[0] {
		var list []int64
		for _, tuple := range tuples {
			list = append(list, tuple[place])
		}
		lists = append(lists, list)
	}
	return lists
}

// makingBy searches for the first polymorphism that makes a tuple of some
// others; nil if a list would have two values.
func makingBy(x impl.Template, tuples [][]int64, made []int64) *search {
	lists := columns(tuples)
	for i, list := range lists {
		for j := range i {
			if slices.Equal(list, lists[j]) && made[i] != made[j] {
				return nil
			}
		}
	}
	return searchBy(x, int64(len(tuples)), toldBy(x.Size, lists, made), 1)
}

// hullBy returns what HullOf has to return for valid tuples, tuple by tuple.
func hullBy(x impl.Template, tuples [][]int64) (impl.Rel, int64) {
	if listCount(x, int64(len(tuples))) > impl.MaxLists {
		return impl.Rel{}, impl.ErrLimit
	}
	hull := impl.Rel{Arity: int64(len(tuples[0]))}
	for _, made := range listsOf(x.Size, hull.Arity) {
		s := makingBy(x, tuples, made)
		if s == nil {
			continue
		}
		if s.steps > s.limit {
			return impl.Rel{}, impl.ErrBudget
		}
		if len(s.found) > 0 {
			hull.Tuples = append(hull.Tuples, made)
		}
	}
	return hull, impl.OK
}

// checkDefinable compares what is said of a relation with its hull.
func checkDefinable(t *testing.T, x impl.Template, r impl.Rel) {
	t.Helper()
	hull, code := hullBy(x, r.Tuples)
	if code != impl.OK {
		wantCode(t, "IsDefinable", code, impl.IsDefinable, x, r)
		wantCode(t, "BreakingOp", code, impl.BreakingOp, x, r)
		return
	}
	set := setOf(r)
	i := slices.IndexFunc(hull.Tuples, func(tuple []int64) bool { return !set[keyOf(tuple)] })
	wantCall(t, "IsDefinable", []any{i < 0, 0}, impl.IsDefinable, roomyTemplate(x), roomy(r))
	if i < 0 {
		wantCode(t, "BreakingOp", impl.ErrNotFound, impl.BreakingOp, roomyTemplate(x), roomy(r))
		return
	}
	f := makingBy(x, r.Tuples, hull.Tuples[i]).found[0].op
	wantCall(t, "BreakingOp", []any{f, hull.Tuples[i], 0}, impl.BreakingOp, roomyTemplate(x), roomy(r))
	// what the proof has to be
	wantCall(t, "IsPolymorphism", []any{true, 0}, impl.IsPolymorphism, x, f)
	wantCall(t, "ApplyToTuples", []any{hull.Tuples[i], 0}, impl.ApplyToTuples, x.Size, f, r.Tuples)
	wantCall(t, "Keeps", []any{false, 0}, impl.Keeps, x.Size, f, r)
}

// someTuples returns count lists of values of one length, in slices that have
// capacity left.
func someTuples(source *rand.Rand, size int64, count int, length int64) [][]int64 {
	tuples := make([][]int64, 0, count+2)
	for range count {
		tuple := make([]int64, 0, length+2)
		for range length {
			tuple = append(tuple, source.Int64N(size))
		}
		tuples = append(tuples, tuple)
	}
	return tuples
}

// checkHull compares the hull of some tuples with the definition, and checks what
// holds for all hulls.
func checkHull(t *testing.T, x impl.Template, tuples [][]int64) {
	t.Helper()
	hull, code := hullBy(x, tuples)
	wantCall(t, "HullOf", []any{hull, code}, impl.HullOf, x, tuples)
	if code != impl.OK {
		return
	}
	for _, tuple := range tuples {
		wantCall(t, "HasTuple", []any{true, 0}, impl.HasTuple, x.Size, hull, tuple)
	}
	for arity := int64(1); arity <= 3; arity++ {
		list, code := impl.PolymorphismsOf(x, arity)
		if code != impl.OK {
			continue
		}
		made := map[tupleKey]bool{}
		for _, f := range list {
			wantCall(t, "Keeps", []any{true, 0}, impl.Keeps, x.Size, f, hull)
			if f.Arity == int64(len(tuples)) {
				made[keyOf(madeOf(x.Size, f, tuples))] = true
			}
		}
		if arity == int64(len(tuples)) {
			same(t, fmt.Sprint("made of ", tuples, " in ", x), made, setOf(hull))
		}
	}
	r, _ := impl.MakeRel(x.Size, hull.Arity, tuples)
	checkDefinable(t, x, r)
	if len(hull.Tuples) <= impl.MaxOpArity {
		checkDefinable(t, x, hull)
		_, code := hullBy(x, hull.Tuples)
		if code == impl.OK {
			wantCall(t, "IsDefinable of a hull", []any{true, 0}, impl.IsDefinable, x, hull)
		}
	}
}

func TestHullsByDefinition(t *testing.T) {
	source := rand.New(rand.NewPCG(31, 31))
	for i, x := range append(smallTemplates(), someTemplates()...) {
		for count := 1; count <= 3; count++ {
			length := 1 + source.Int64N(4)
			if count == 3 && x.Size == 4 {
				length = 1 + source.Int64N(2)
			}
			tuples := someTuples(source, x.Size, count, length)
			if i%4 == 0 {
				tuples[count-1] = slices.Clone(tuples[0]) // a tuple that comes twice
			}
			if i%4 == 1 {
				for _, tuple := range tuples {
					tuple[length-1] = tuple[0] // places with equal values
				}
			}
			checkHull(t, roomyTemplate(x), tuples)
		}
	}
}

func TestKnownHulls(t *testing.T) {
	full := impl.Rel{Arity: 2, Tuples: listsOf(2, 2)}
	equal := impl.Rel{Arity: 2, Tuples: [][]int64{{0, 0}, {1, 1}}}
	wantCall(t, "one tuple", []any{"{2 [[0 1] [1 0]]}", 0}, impl.HullOf, swap(), [][]int64{{0, 1}})
	wantCall(t, "equal values", []any{equal, 0}, impl.HullOf, swap(), [][]int64{{1, 1}})
	wantCall(t, "two tuples", []any{full, 0}, impl.HullOf, swap(), [][]int64{{0, 1}, {0, 0}})
	wantCall(t, "a tuple twice", []any{"{2 [[0 1] [1 0]]}", 0}, impl.HullOf, swap(), [][]int64{{0, 1}, {0, 1}})
	wantCall(t, "three tuples", []any{full, 0}, impl.HullOf, swap(), [][]int64{{0, 1}, {0, 0}, {0, 1}})
	// a tuple with two values for one list is none of the hull, even if any operation is a polymorphism
	wantCall(t, "two places", []any{equal, 0}, impl.HullOf, impl.Template{Size: 2}, [][]int64{{0, 0}, {1, 1}})
	wantCall(t, "four places", []any{"{4 [[0 0 0 0] [0 1 0 1] [1 0 1 0] [1 1 1 1]]}", 0}, impl.HullOf, impl.Template{Size: 2}, [][]int64{{0, 1, 0, 1}})
	wantCall(t, "no relations", []any{full, 0}, impl.HullOf, impl.Template{Size: 2}, [][]int64{{0, 1}})
	wantCall(t, "no tuples in relations", []any{full, 0}, impl.HullOf, impl.Template{Size: 2, Rels: []impl.Rel{{Arity: 1}, {Arity: 3}}}, [][]int64{{0, 1}})
	wantCall(t, "one value", []any{"{4 [[0 0 0 0]]}", 0}, impl.HullOf, impl.Template{Size: 1}, [][]int64{{0, 0, 0, 0}, {0, 0, 0, 0}, {0, 0, 0, 0}})
	wantCall(t, "all", []any{impl.Rel{Arity: 4, Tuples: listsOf(4, 4)}, 0}, impl.HullOf, impl.Template{Size: 4}, [][]int64{{0, 1, 2, 3}})
	wantCall(t, "all", []any{impl.Rel{Arity: 4, Tuples: listsOf(4, 4)}, 0}, impl.HullOf, impl.Template{Size: 4}, [][]int64{{0, 1, 2, 3}, {0, 0, 0, 0}, {0, 0, 0, 0}})
	// constants are kept apart
	fixed := template(t, "4/1 0/1 1/1 2/1 3")
	wantCall(t, "fixed values", []any{"{4 [[0 1 2 3]]}", 0}, impl.HullOf, fixed, [][]int64{{0, 1, 2, 3}})
	wantCall(t, "fixed values", []any{"{1 [[0] [1] [2] [3]]}", 0}, impl.HullOf, fixed, [][]int64{{1}, {2}})
}

func TestKnownDefinableRelations(t *testing.T) {
	r := impl.Rel{Arity: 2, Tuples: [][]int64{{0, 1}, {1, 0}}}
	wantCall(t, "IsDefinable", []any{true, 0}, impl.IsDefinable, swap(), r)
	wantCode(t, "BreakingOp", impl.ErrNotFound, impl.BreakingOp, swap(), r)
	wantCall(t, "IsDefinable", []any{false, 0}, impl.IsDefinable, order(), r)
	wantCall(t, "BreakingOp", []any{"{2 [0 0 0 0]}", "[0 0]", 0}, impl.BreakingOp, order(), r)
	wantCall(t, "BreakingOp", []any{"{1 [1 0]}", "[1]", 0}, impl.BreakingOp, swap(), impl.Rel{Arity: 1, Tuples: [][]int64{{0}}})
	// the first tuple of the hull that is none of the relation need not be the first one
	wantCall(t, "BreakingOp", []any{"{3 [0 1 1 1 0 1 1 1]}", "[1 1]", 0}, impl.BreakingOp, order(), impl.Rel{Arity: 2, Tuples: [][]int64{{0, 0}, {0, 1}, {1, 0}}})
	wantCall(t, "IsDefinable", []any{true, 0}, impl.IsDefinable, order(), order().Rels[0])
	wantCall(t, "IsDefinable", []any{true, 0}, impl.IsDefinable, template(t, "4/2 01 23"), impl.Rel{Arity: 2, Tuples: [][]int64{{1, 0}, {3, 2}}})
	wantCall(t, "IsDefinable", []any{true, 0}, impl.IsDefinable, impl.Template{Size: 1}, impl.Rel{Arity: 4, Tuples: [][]int64{{0, 0, 0, 0}}})
}

// notHulls are no tuples that have a hull in a template of the size 2.
func notHulls() [][][]int64 {
	one := []int64{0, 1}
	list := [][][]int64{
		nil, {}, {{}}, {nil}, {{}, {}}, {{}, {}, {}, {}}, {one, {}}, {{}, one}, {one, nil},
		{{0, 1, 0, 1, 0}}, {{0, 1, 0, 1, 0}, {0, 1, 0, 1, 0}}, {one, {0}}, {{0}, one}, {one, one, {0, 1, 1}}, {one, {0, 1, 0, 1, 0}},
		{one, one, one, one}, {one, one, one, one, one}, {{0, 2}}, {{2, 0}}, {one, {0, 2}}, {one, one, {2, 2}}, {one, {0, -1}},
	}
	for _, value := range farAway {
		list = append(list, [][]int64{{value}}, [][]int64{one, {value, 0}})
	}
	return list
}

func TestTuplesWithoutHull(t *testing.T) {
	tooMany := impl.Template{Size: 2, Rels: []impl.Rel{{Arity: 4, Tuples: listsOf(2, 4)}}}
	for _, x := range []impl.Template{order(), {Size: 2}, tooMany} {
		for _, tuples := range notHulls() {
			wantCode(t, "HullOf", impl.ErrRange, impl.HullOf, x, tuples)
			wantCode(t, "IndicatorFormula", impl.ErrRange, impl.IndicatorFormula, x, tuples)
		}
	}
	for _, bad := range badTemplates() {
		for _, tuples := range append(notHulls(), [][]int64{{0}}, [][]int64{{0, 1}, {1, 0}}) {
			wantCode(t, "HullOf", impl.ErrInvalid, impl.HullOf, bad, tuples)
			wantCode(t, "IndicatorFormula", impl.ErrInvalid, impl.IndicatorFormula, bad, tuples)
		}
	}
}

func TestErrorsOfDefinability(t *testing.T) {
	_, more := listLimits(3)
	four := impl.Rel{Arity: 1, Tuples: [][]int64{{0}, {1}, {2}, {3}}}
	for _, x := range []impl.Template{{Size: 4}, more} {
		for _, r := range []impl.Rel{four, {Arity: 4, Tuples: listsOf(4, 4)}, {Arity: 2, Tuples: listsOf(4, 2)[3:7]}} {
			wantCode(t, "IsDefinable", impl.ErrLimit, impl.IsDefinable, x, r)
			wantCode(t, "BreakingOp", impl.ErrLimit, impl.BreakingOp, x, r)
		}
		for arity := int64(1); arity <= 4; arity++ {
			wantCode(t, "IsDefinable", impl.ErrState, impl.IsDefinable, x, impl.Rel{Arity: arity})
			wantCode(t, "BreakingOp", impl.ErrState, impl.BreakingOp, x, impl.Rel{Arity: arity, Tuples: [][]int64{}})
		}
	}
	// three tuples are not too many
	wantCall(t, "IsDefinable", []any{true, 0}, impl.IsDefinable, template(t, "2/1 0/1 1"), impl.Rel{Arity: 2, Tuples: [][]int64{{0, 1}}})
	wantCall(t, "BreakingOp", []any{"{3 [0 0 0 0 0 0 0 0]}", "[0 0]", 0}, impl.BreakingOp, order(), impl.Rel{Arity: 2, Tuples: [][]int64{{0, 1}, {1, 0}, {1, 1}}})
	good := impl.Rel{Arity: 2, Tuples: [][]int64{{0, 1}}}
	for _, r := range badRels() {
		wantCode(t, "IsDefinable", impl.ErrInvalid, impl.IsDefinable, order(), r)
		wantCode(t, "BreakingOp", impl.ErrInvalid, impl.BreakingOp, order(), r)
	}
	for _, bad := range badTemplates() {
		for _, r := range []impl.Rel{good, {Arity: 2}, {}, four} {
			wantCode(t, "IsDefinable", impl.ErrInvalid, impl.IsDefinable, bad, r)
			wantCode(t, "BreakingOp", impl.ErrInvalid, impl.BreakingOp, bad, r)
		}
	}
}

func TestValuesOfFormulasAreDefinable(t *testing.T) {
	count := 0
	eachFormula(32, func(x impl.Template, f impl.Formula) {
		value := valueBy(x, f)
		if len(value.Tuples) == 0 || len(value.Tuples) > impl.MaxOpArity {
			return
		}
		if code := call(t, impl.IsDefinable, x, value)[1].(int64); code == impl.OK {
			count++
			wantCall(t, "IsDefinable "+short(f), []any{true, 0}, impl.IsDefinable, x, value)
			wantCode(t, "BreakingOp "+short(f), impl.ErrNotFound, impl.BreakingOp, x, value)
		}
	})
	if count < 20 {
		t.Errorf("only %d values are small enough", count)
	}
}

func TestStepsOfHulls(t *testing.T) {
	for _, c := range []struct {
		short  string
		tuples [][]int64
		steps  int64
	}{
		{"4/2 02 10 31 33", [][]int64{{2, 1}, {2, 3}}, 6000},
		{"4/2 00 02 12 32", [][]int64{{1, 0}, {1, 2}, {2, 0}}, 6000},
		{"4/2 01 23/1 2/2 01 11 21 32", [][]int64{{1}, {3}}, 6000},
		{"3/3 000 120 220 222/1 1", [][]int64{{0}, {1}, {2}}, 6000},
		{"4/2 02 13 22 23/1 0 1 3/2 11 20", [][]int64{{0}, {2}}, 6001},
		{"4/2 13 22/1 0 1 3/2 11 22 32", [][]int64{{2, 0}, {2, 2}}, 6001},
		// 1 is of the hull, and would be enough to tell that the relation is not definable
		{"4/1 0 1 3/2 11 20 22", [][]int64{{0}, {2}}, 6001},
		{"3/3 012 100 110 121/1 0", [][]int64{{0, 0}, {2, 0}, {2, 1}}, 6001},
	} {
		x := template(t, c.short)
		most := int64(0)
		for _, made := range listsOf(x.Size, int64(len(c.tuples[0]))) {
			if s := makingBy(x, c.tuples, made); s != nil {
				most = max(most, s.steps)
			}
		}
		same(t, c.short, most, c.steps)
		checkHull(t, x, c.tuples)
		if most > impl.MaxPolySteps {
			r := impl.Rel{Arity: int64(len(c.tuples[0])), Tuples: c.tuples}
			wantCode(t, "HullOf", impl.ErrBudget, impl.HullOf, x, c.tuples)
			wantCode(t, "IsDefinable", impl.ErrBudget, impl.IsDefinable, x, r)
			wantCode(t, "BreakingOp", impl.ErrBudget, impl.BreakingOp, x, r)
		}
	}
}
