package tests

import (
	"fmt"
	"math"
	"math/rand/v2"
	"slices"
	"testing"

	"loop.example/g01085/impl"
)

// graph returns the template of one relation of arity 2.
func graph(size int64, pairs ...[]int64) impl.Template {
	r, _ := impl.MakeRel(size, 2, pairs)
	return impl.Template{Size: size, Rels: []impl.Rel{r}}
}

// roomyTemplate returns the same template with slices that have capacity left.
func roomyTemplate(t impl.Template) impl.Template {
	rels := make([]impl.Rel, 0, len(t.Rels)+2)
	for _, r := range t.Rels {
		rels = append(rels, roomy(r))
	}
	copy(rels[len(rels):cap(rels)], []impl.Rel{{Arity: 9, Tuples: [][]int64{{9}}}, {Arity: 8}})
	return impl.Template{Size: t.Size, Rels: rels}
}

// namedTemplates are templates of which the cores are known.
func namedTemplates() []impl.Template {
	return []impl.Template{
		{Size: 1}, {Size: 4}, {Size: 3, Rels: []impl.Rel{{Arity: 1}, {Arity: 4}}},
		graph(1, []int64{0, 0}), graph(2, []int64{0, 1}), graph(2, []int64{0, 1}, []int64{1, 0}),
		graph(3, []int64{0, 1}, []int64{1, 2}, []int64{2, 0}),
		graph(3, []int64{0, 1}, []int64{0, 2}, []int64{1, 2}),
		graph(4, []int64{0, 1}, []int64{1, 2}, []int64{2, 3}, []int64{3, 0}),
		graph(4, []int64{0, 1}, []int64{1, 0}, []int64{1, 2}, []int64{2, 1}, []int64{2, 3}, []int64{3, 2}),
		graph(4, []int64{0, 1}, []int64{1, 2}, []int64{2, 3}, []int64{3, 3}),
		graph(4, []int64{2, 3}, []int64{3, 2}),
		graph(4, []int64{1, 2}, []int64{2, 3}, []int64{3, 1}),
		graph(4, []int64{0, 3}, []int64{1, 3}, []int64{2, 3}),
		{Size: 4, Rels: []impl.Rel{{Arity: 2, Tuples: [][]int64{{0, 1}, {2, 3}}}, {Arity: 1, Tuples: [][]int64{{2}, {3}}}}},
		{Size: 4, Rels: []impl.Rel{{Arity: 1, Tuples: [][]int64{{0}}}, {Arity: 1, Tuples: [][]int64{{1}}}, {Arity: 1, Tuples: [][]int64{{2}}}, {Arity: 1, Tuples: [][]int64{{3}}}}},
	}
}

// someTemplates returns the named templates and many others, among them some
// with the same arities.
func someTemplates() []impl.Template {
	list := namedTemplates()
	source := rand.New(rand.NewPCG(4, 5))
	for i := range 60 {
		t := impl.Template{Size: 1 + source.Int64N(4)}
		arities := [][]int64{{2}, {2}, {1, 2}, {3}, {2, 2}, {1, 1, 4}, {2, 3, 1, 4, 2, 2}}[i%7]
		percent := 10 + source.IntN(60)
		for _, arity := range arities {
			t.Rels = append(t.Rels, relWhere(t.Size, arity, func([]int64) bool { return source.IntN(100) < percent }))
		}
		list = append(list, t)
	}
	return list
}

func aritiesOf(t impl.Template) string {
	text := ""
	for _, r := range t.Rels {
		text += fmt.Sprint(r.Arity, " ")
	}
	return text
}

// isMap tells by the definition whether a list is a map from t to u.
func isMap(t, u impl.Template, to []int64) bool {
	for i, r := range t.Rels {
		set := setOf(u.Rels[i])
		for _, tuple := range r.Tuples {
			if !set[keyOf(at(to, tuple))] {
				return false
			}
		}
	}
	return true
}

// mapsOf returns all maps from t to u, in order.
func mapsOf(t, u impl.Template) [][]int64 {
	var maps [][]int64
	for _, to := range listsOf(u.Size, t.Size) {
		if isMap(t, u, to) {
			maps = append(maps, to)
		}
	}
	return maps
}

// badTemplates are templates that are not valid.
func badTemplates() []impl.Template {
	var list []impl.Template
	for _, size := range noSizes {
		list = append(list, impl.Template{Size: size}, impl.Template{Size: size, Rels: []impl.Rel{{Arity: 2}}})
	}
	for _, r := range badRels() {
		list = append(list, impl.Template{Size: 2, Rels: []impl.Rel{r}}, impl.Template{Size: 2, Rels: []impl.Rel{{Arity: 2}, {Arity: 1}, r}})
	}
	seven := make([]impl.Rel, 7)
	for i := range seven {
		seven[i].Arity = 1
	}
	return append(list, impl.Template{}, impl.Template{Size: 2, Rels: seven})
}

func TestValidTemplate(t *testing.T) {
	for _, x := range someTemplates() {
		wantCall(t, "ValidTemplate", []any{true}, impl.ValidTemplate, roomyTemplate(x))
	}
	for _, x := range badTemplates() {
		wantCall(t, "ValidTemplate", []any{false}, impl.ValidTemplate, x)
	}
	six := make([]impl.Rel, 6)
	for i := range six {
		six[i] = relWhere(4, 4, func([]int64) bool { return true })
	}
	wantCall(t, "ValidTemplate", []any{true}, impl.ValidTemplate, impl.Template{Size: 4, Rels: six})
	wantCall(t, "ValidTemplate", []any{false}, impl.ValidTemplate, impl.Template{Size: 3, Rels: six})
}

func TestSameTemplate(t *testing.T) {
	list := append(badTemplates(), someTemplates()...)
	for _, x := range list {
		for _, y := range list {
			wantCall(t, "SameTemplate", []any{fmt.Sprint(x) == fmt.Sprint(y)}, impl.SameTemplate, x, y)
		}
		wantCall(t, "SameTemplate", []any{true}, impl.SameTemplate, roomyTemplate(x), x)
	}
	wantCall(t, "SameTemplate", []any{true}, impl.SameTemplate, impl.Template{Size: 2}, impl.Template{Size: 2, Rels: []impl.Rel{}})
	wantCall(t, "SameTemplate", []any{true}, impl.SameTemplate, impl.Template{Rels: []impl.Rel{{}}}, impl.Template{Rels: []impl.Rel{{Tuples: [][]int64{}}}})
	wantCall(t, "SameTemplate", []any{false}, impl.SameTemplate, impl.Template{Rels: []impl.Rel{{}}}, impl.Template{})
}

func TestMaps(t *testing.T) {
	list := someTemplates()
	for _, x := range list {
		for _, y := range list {
			if aritiesOf(x) != aritiesOf(y) {
				wantCode(t, "FirstMap", impl.ErrState, impl.FirstMap, x, y)
				wantCode(t, "IsMapOf", impl.ErrState, impl.IsMapOf, x, y, make([]int64, x.Size))
				continue
			}
			maps := mapsOf(x, y)
			if len(maps) == 0 {
				wantCode(t, "FirstMap", impl.ErrNotFound, impl.FirstMap, x, y)
				continue
			}
			wantCall(t, "FirstMap", []any{maps[0], 0}, impl.FirstMap, roomyTemplate(x), roomyTemplate(y))
		}
	}
}

func TestIsMapOf(t *testing.T) {
	list := namedTemplates()
	for _, x := range list {
		for _, y := range list {
			if aritiesOf(x) != aritiesOf(y) {
				continue
			}
			for _, to := range listsOf(y.Size, x.Size) {
				is, code := impl.IsMapOf(x, y, to)
				same(t, fmt.Sprint("IsMapOf of ", x, y, to), []any{is, code}, []any{isMap(x, y, to), 0})
			}
			wantCall(t, "IsMapOf", []any{isMap(x, y, make([]int64, x.Size)), 0}, impl.IsMapOf, roomyTemplate(x), roomyTemplate(y), roomyList(make([]int64, x.Size)...))
		}
	}
}

func TestErrorsOfMaps(t *testing.T) {
	pair, triangle := graph(2, []int64{0, 1}), graph(3, []int64{0, 1}, []int64{1, 2}, []int64{2, 0})
	for _, to := range [][]int64{nil, {}, {0}, {0, 1, 2}, {0, 3}, {3, 0}, {-1, 0}, {0, math.MaxInt64}, {math.MinInt64, 1}} {
		wantCode(t, "IsMapOf", impl.ErrRange, impl.IsMapOf, pair, triangle, to)
	}
	wantCall(t, "IsMapOf", []any{true, 0}, impl.IsMapOf, pair, triangle, []int64{2, 0})
	others := []impl.Template{{Size: 2}, {Size: 2, Rels: []impl.Rel{{Arity: 3}}}, {Size: 2, Rels: []impl.Rel{{Arity: 2}, {Arity: 2}}}}
	for _, other := range others {
		for _, to := range [][]int64{{0, 0}, nil, {9, 9}} {
			wantCode(t, "IsMapOf", impl.ErrState, impl.IsMapOf, pair, other, to)
			wantCode(t, "IsMapOf", impl.ErrState, impl.IsMapOf, other, pair, to)
		}
		wantCode(t, "FirstMap", impl.ErrState, impl.FirstMap, pair, other)
		wantCode(t, "FirstMap", impl.ErrState, impl.FirstMap, other, pair)
	}
	for _, bad := range badTemplates() {
		for _, good := range []impl.Template{pair, {Size: 2}} {
			wantCode(t, "IsMapOf", impl.ErrInvalid, impl.IsMapOf, bad, good, nil)
			wantCode(t, "IsMapOf", impl.ErrInvalid, impl.IsMapOf, good, bad, []int64{0, 0})
			wantCode(t, "FirstMap", impl.ErrInvalid, impl.FirstMap, bad, good)
			wantCode(t, "FirstMap", impl.ErrInvalid, impl.FirstMap, good, bad)
		}
		wantCode(t, "IsMapOf", impl.ErrInvalid, impl.IsMapOf, bad, bad, nil)
		wantCode(t, "FirstMap", impl.ErrInvalid, impl.FirstMap, bad, bad)
		wantCode(t, "CoreOf", impl.ErrInvalid, impl.CoreOf, bad)
	}
}

func TestMapsGoTogether(t *testing.T) {
	var list []impl.Template
	for _, x := range someTemplates() {
		if aritiesOf(x) == "2 " {
			list = append(list, x)
		}
	}
	found := 0
	for _, x := range list {
		for _, y := range list {
			first, code := impl.FirstMap(x, y)
			if code != impl.OK {
				continue
			}
			for _, z := range list {
				second, code := impl.FirstMap(y, z)
				if code != impl.OK {
					continue
				}
				found++
				is, code := impl.IsMapOf(x, z, at(second, first))
				if !is || code != impl.OK {
					t.Errorf("%v and %v are no map from %v to %v", first, second, x, z)
				}
			}
		}
	}
	if found < 100 {
		t.Errorf("only %d maps were put together", found)
	}
}

// coreByDefinition returns the core and its values.
func coreByDefinition(x impl.Template) (impl.Template, []int64) {
	var best []int64
	for _, to := range mapsOf(x, x) {
		values := slices.Clone(to)
		slices.Sort(values)
		values = slices.Compact(values)
		if best == nil || len(values) < len(best) {
			best = values
		}
	}
	core := impl.Template{Size: int64(len(best))}
	for _, r := range x.Rels {
		part := impl.Rel{Arity: r.Arity}
		for _, tuple := range r.Tuples {
			var next []int64
			for _, value := range tuple {
				if i := slices.Index(best, value); i >= 0 {
					next = append(next, int64(i))
				}
			}
			if len(next) == len(tuple) {
				part.Tuples = append(part.Tuples, next)
			}
		}
		core.Rels = append(core.Rels, part)
	}
	return core, best
}

func TestCoreOf(t *testing.T) {
	for _, x := range someTemplates() {
		core, values := coreByDefinition(x)
		wantCall(t, "CoreOf", []any{core, values, 0}, impl.CoreOf, roomyTemplate(x))
	}
	sizes := []int64{1, 1, 1, 1, 2, 2, 3, 3, 4, 2, 1, 2, 3, 2, 2, 4}
	for i, x := range namedTemplates() {
		core, _, code := impl.CoreOf(x)
		same(t, fmt.Sprint("size of the core of ", x), []any{core.Size, code}, []any{sizes[i], 0})
	}
	wantCall(t, "CoreOf", []any{"{2 [{2 [[0 1]]} {1 [[0] [1]]}]}", "[2 3]", 0}, impl.CoreOf, namedTemplates()[14])
	wantCall(t, "CoreOf", []any{"{1 []}", "[0]", 0}, impl.CoreOf, impl.Template{Size: 4})
	loops := impl.Template{Size: 3, Rels: []impl.Rel{{Arity: 2, Tuples: [][]int64{{1, 1}, {2, 2}}}}}
	wantCall(t, "CoreOf", []any{"{1 [{2 [[0 0]]}]}", "[1]", 0}, impl.CoreOf, loops)
}

func TestCoreHasNoSmallerOne(t *testing.T) {
	for _, x := range someTemplates() {
		core, values, code := impl.CoreOf(x)
		if code != impl.OK || !impl.ValidTemplate(core) || !slices.IsSorted(values) || int64(len(values)) != core.Size {
			t.Fatalf("CoreOf of %v: %v %v %d", x, core, values, code)
		}
		wantCall(t, "IsMapOf", []any{true, 0}, impl.IsMapOf, core, x, values)
		wantCode(t, "FirstMap", impl.OK, impl.FirstMap, x, core)
		for _, to := range mapsOf(core, core) {
			slices.Sort(to)
			if int64(len(slices.Compact(to))) != core.Size {
				t.Errorf("the core %v of %v can be mapped to less values", core, x)
			}
		}
		all := make([]int64, core.Size)
		for i := range all {
			all[i] = int64(i)
		}
		wantCall(t, "CoreOf", []any{core, all, 0}, impl.CoreOf, core)
	}
}
