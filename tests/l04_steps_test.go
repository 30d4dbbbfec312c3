package tests

import (
	"slices"
	"testing"

	"loop.example/g01085/impl"
)

// wantSteps checks the steps of a search by the definition, so that a test that
// needs an exact number of them has it.
func wantSteps(t *testing.T, s *search, steps int64) {
	t.Helper()
	if s.steps != steps {
		t.Fatalf("there are %d steps, not %d", s.steps, steps)
	}
}

func TestSearchesOfExactlySoManySteps(t *testing.T) {
	for short, count := range map[string]int{
		"4/2 00 12 13 30/1 0/2 03 12 20 30":    4,
		"4/2 01 10 23 31/2 01 10 23 30":        2,
		"4/2 00 11 20 32/2 00 20 23/1 0 1 2 3": 416,
	} {
		x := template(t, short)
		s := searchBy(x, 2, nil, 0)
		wantSteps(t, s, impl.MaxPolySteps)
		same(t, short, len(s.found), count)
		wantCall(t, "CountPolymorphisms", []any{count, 0}, impl.CountPolymorphisms, x, 2)
		wantCall(t, "PolymorphismsOf", s.all(), impl.PolymorphismsOf, x, 2)
		for kind := int64(impl.KdProjection); kind <= impl.KdSymmetric; kind++ {
			wantCall(t, "FirstPolymorphism", s.first(kind), impl.FirstPolymorphism, x, 2, kind)
		}
		// the last choices of a search that finds nothing need no further step
		wantCode(t, "FirstPolymorphism", impl.ErrNotFound, impl.FirstPolymorphism, x, 2, impl.KdMajority)
	}
}

func TestSearchesOfTooManySteps(t *testing.T) {
	// more than 64 are found before the steps are at an end
	for _, x := range []impl.Template{{Size: 3}, {Size: 4}} {
		for arity := int64(2); arity <= 3; arity++ {
			wantCode(t, "CountPolymorphisms", impl.ErrBudget, impl.CountPolymorphisms, x, arity)
			wantCode(t, "PolymorphismsOf", impl.ErrLimit, impl.PolymorphismsOf, x, arity)
			wantCall(t, "PolymorphismWith", []any{impl.Op{Arity: arity, Table: make([]int64, len(listsOf(x.Size, arity)))}, 0}, impl.PolymorphismWith, x, arity, nil, nil)
		}
	}
	wantCode(t, "FirstPolymorphism", impl.ErrBudget, impl.FirstPolymorphism, impl.Template{Size: 4}, 2, impl.KdMajority)
	// without relations there are 2 + 4 + .. + 256 steps
	wantCall(t, "CountPolymorphisms", []any{256, 0}, impl.CountPolymorphisms, impl.Template{Size: 2}, 3)
	// a few steps too many
	x := template(t, "4/2 00 11 12 23/2 22 33")
	wantCode(t, "CountPolymorphisms", impl.ErrBudget, impl.CountPolymorphisms, x, 2)
	wantCode(t, "FirstPolymorphism", impl.ErrBudget, impl.FirstPolymorphism, x, 2, impl.KdMajority)
}

func TestStepsOfToldValues(t *testing.T) {
	for _, c := range []struct {
		short  string
		lists  [][]int64
		values []int64
		steps  int64
	}{
		{"4/2 13 22 32", [][]int64{{3, 1}, {1, 0}, {3, 2}}, []int64{2, 0, 3}, 6000},
		{"4/2 01 02 11 30", [][]int64{{2, 2}, {3, 3}}, []int64{1, 0}, 6000},
		{"4/2 03 10 21 31", [][]int64{{3, 3}}, []int64{0}, 6001},
		{"4/2 02 11 13 33", [][]int64{{0, 1}, {2, 2}, {3, 1}}, []int64{0, 1, 1}, 6001},
		{"4/2 02 11 30/2 00", [][]int64{{3, 1}}, []int64{2}, 6000},
		{"4/2 00 13 21 32/2 00 02", [][]int64{{3, 1}, {3, 2}, {3, 3}}, []int64{1, 3, 2}, 6000},
		{"4/1 0 1 2/2 03 11 20 21/2 02 20 32", [][]int64{{2, 2}, {3, 1}}, []int64{1, 1}, 6001},
		{"4/1 0 1 3/1 1/2 02 20 21", [][]int64{{3, 2}, {0, 2}}, []int64{1, 1}, 6001},
	} {
		x := template(t, c.short)
		s := searchBy(x, 2, toldBy(4, c.lists, c.values), 1)
		wantSteps(t, s, c.steps)
		wantCall(t, "PolymorphismWith", s.first(0), impl.PolymorphismWith, x, 2, c.lists, c.values)
		code := call(t, impl.PolymorphismWith, x, 2, c.lists, c.values)[1].(int64)
		same(t, c.short, code == impl.ErrBudget, c.steps > impl.MaxPolySteps)
	}
	// all values are told: each one is one step, and one that fails ends the search
	all := listsOf(4, 3)
	values := make([]int64, len(all))
	wantCall(t, "PolymorphismWith", []any{impl.Op{Arity: 3, Table: values}, 0}, impl.PolymorphismWith, impl.Template{Size: 4}, 3, all, values)
	wantCode(t, "PolymorphismWith", impl.ErrNotFound, impl.PolymorphismWith, template(t, "4/1 1"), 3, all, values)
}

func TestFirstKindsAtTheLastStep(t *testing.T) {
	for _, c := range []struct {
		short       string
		arity, kind int64
		steps       int64
	}{
		{"3/1 0 1/2 10 21/2 00 02 11 20", 3, impl.KdMajority, 6000},
		{"3/3 001 120 220/2 01 02 12", 3, impl.KdSymmetric, 6000},
		{"4/2 00 03 31/2 03 12 13", 2, impl.KdIdempotent, 6000},
		{"4/2 03 12/2 00 13 30", 2, impl.KdSemilattice, 6000},
		{"4/2 00 10/1 1 2 3/2 20 23 32 33", 2, impl.KdProjection, 6000},
		{"4/2 03 22 30 33/2 01 30", 2, impl.KdConservative, 6000},
		{"4/2 01 10 22 32/2 01 12 32/2 02 10", 3, impl.KdIdempotent, 6001},
		{"4/2 01 10 22 32/2 01 12 32/2 02 10", 3, impl.KdConservative, 6001},
	} {
		x := template(t, c.short)
		s := &search{size: x.Size, arity: c.arity, ending: lookupsOf(x, c.arity), limit: 6001}
		s.run()
		i := slices.IndexFunc(s.found, func(w whole) bool { return isKind(x.Size, w.op, c.kind) })
		if i < 0 || s.found[i].step != c.steps {
			t.Fatalf("%s: the first one is not found at the step %d", c.short, c.steps)
		}
		if c.steps > impl.MaxPolySteps {
			wantCode(t, "FirstPolymorphism", impl.ErrBudget, impl.FirstPolymorphism, x, c.arity, c.kind)
		} else {
			wantCall(t, "FirstPolymorphism", []any{s.found[i].op, 0}, impl.FirstPolymorphism, x, c.arity, c.kind)
		}
	}
}

func TestNumberOfPolymorphisms(t *testing.T) {
	for _, c := range []struct {
		short  string
		arity  int64
		number int
	}{
		{"2/3 001", 3, 64}, {"2/1 0 1/2 01", 3, 64}, {"4/2 02 10 11 20/2 01 10 31 32", 2, 64},
		{"3/2 00 02 22/3 000 101 111 200", 2, 65}, {"4/2 02 20 21 33/2 00 03 11 13/2 00", 2, 65},
	} {
		x := template(t, c.short)
		s := searchBy(x, c.arity, nil, 0)
		same(t, c.short, len(s.found), c.number)
		wantCall(t, "PolymorphismsOf", s.all(), impl.PolymorphismsOf, x, c.arity)
		wantCode(t, "PolymorphismsOf", map[bool]int64{true: impl.ErrLimit, false: impl.OK}[c.number > impl.MaxOps], impl.PolymorphismsOf, x, c.arity)
		wantCall(t, "CountPolymorphisms", []any{c.number, 0}, impl.CountPolymorphisms, x, c.arity)
	}
	wantCode(t, "PolymorphismsOf", impl.ErrLimit, impl.PolymorphismsOf, impl.Template{Size: 4}, 1)
	wantCall(t, "CountPolymorphisms", []any{256, 0}, impl.CountPolymorphisms, impl.Template{Size: 4}, 1)
}

func TestWhichLimitComesFirst(t *testing.T) {
	// the polymorphism behind the last one that is allowed is found at the last step
	limit := template(t, "4/2 00/2 11 13 23/2 10 30 32 33")
	same(t, "step", searchBy(limit, 2, nil, impl.MaxOps+1).steps, 6000)
	wantCode(t, "PolymorphismsOf", impl.ErrLimit, impl.PolymorphismsOf, limit, 2)
	wantCode(t, "CountPolymorphisms", impl.ErrBudget, impl.CountPolymorphisms, limit, 2)
	// it would be found at the step behind it
	for _, short := range []string{"4/2 23 31 33/2 02 30", "4/2 01 11 23 31/2 02 22 30 33"} {
		budget := template(t, short)
		s := searchBy(budget, 2, nil, 0)
		same(t, "found before", len(s.found), impl.MaxOps)
		same(t, "steps", s.steps, 6001)
		wantCode(t, "PolymorphismsOf", impl.ErrBudget, impl.PolymorphismsOf, budget, 2)
		wantCode(t, "CountPolymorphisms", impl.ErrBudget, impl.CountPolymorphisms, budget, 2)
	}
	// all 64 are found before the search ends, 65 and more while it goes on
	wantCode(t, "PolymorphismsOf", impl.ErrLimit, impl.PolymorphismsOf, template(t, "4/2 00 10/2 03 11 20"), 2)
}

// listLimits returns, for an arity, a template with exactly MaxLists lists of
// tuples, and one with one more.
func listLimits(arity int64) (impl.Template, impl.Template) {
	x := impl.Template{Size: 4}
	if arity == 3 {
		ten := impl.Rel{Arity: 2, Tuples: listsOf(4, 2)[:10]}
		x.Rels = []impl.Rel{ten, ten, ten, {Arity: 4, Tuples: listsOf(4, 4)[70:80]}}
	} else {
		x.Rels = []impl.Rel{{Arity: 3, Tuples: listsOf(4, 3)[:60]}, {Arity: 4, Tuples: listsOf(4, 4)[200:220]}}
	}
	more := impl.Template{Size: 4, Rels: append(slices.Clone(x.Rels), impl.Rel{Arity: 1, Tuples: [][]int64{{3}}})}
	return x, more
}

func TestLimitOfLists(t *testing.T) {
	for arity := int64(2); arity <= 3; arity++ {
		exact, more := listLimits(arity)
		same(t, "lists", []int64{listCount(exact, arity), listCount(more, arity)}, []int64{4000, 4001})
		checkSearches(t, exact, arity, 1)
		checkSearches(t, more, arity, 1)
		lists := listsOf(4, arity)[:1]
		checkWith(t, exact, arity, lists, []int64{1})
		wantCode(t, "PolymorphismWith", impl.ErrLimit, impl.PolymorphismWith, more, arity, lists, []int64{1})
		wantCode(t, "PolymorphismWith", impl.ErrLimit, impl.PolymorphismWith, more, arity, nil, nil)
		if code := call(t, impl.HullOf, exact, lists[:1])[1]; code == int64(impl.ErrLimit) {
			t.Errorf("ErrLimit for fewer lists")
		}
		tuples := [][]int64{{0, 1}, {1, 2}, {2, 2}}[:arity]
		if code := call(t, impl.HullOf, exact, tuples)[1]; code == int64(impl.ErrLimit) {
			t.Errorf("ErrLimit of HullOf for exactly MaxLists lists")
		}
		r := impl.Rel{Arity: 2, Tuples: tuples}
		wantCode(t, "HullOf", impl.ErrLimit, impl.HullOf, more, tuples)
		wantCode(t, "IsDefinable", impl.ErrLimit, impl.IsDefinable, more, r)
		wantCode(t, "BreakingOp", impl.ErrLimit, impl.BreakingOp, more, r)
	}
	// there are never so many for the arity 1
	full := impl.Rel{Arity: 4, Tuples: listsOf(4, 4)}
	all := impl.Template{Size: 4, Rels: []impl.Rel{full, full, full, full, full, full}}
	wantCall(t, "CountPolymorphisms", []any{256, 0}, impl.CountPolymorphisms, all, 1)
	wantCall(t, "IsRigid", []any{false, 0}, impl.IsRigid, all)
	wantCall(t, "HullOf", []any{full, 0}, impl.HullOf, all, [][]int64{{0, 1, 2, 3}})
	wantCode(t, "PolymorphismsOf", impl.ErrLimit, impl.PolymorphismsOf, all, 2)
	wantCode(t, "PolymorphismsOf", impl.ErrLimit, impl.PolymorphismsOf, all, 3)
}

func TestOtherArities(t *testing.T) {
	_, more := listLimits(3)
	for _, x := range []impl.Template{order(), {Size: 1}, more} {
		for _, arity := range noOpArities {
			wantCode(t, "PolymorphismsOf", impl.ErrRange, impl.PolymorphismsOf, x, arity)
			wantCode(t, "CountPolymorphisms", impl.ErrRange, impl.CountPolymorphisms, x, arity)
			for _, kind := range []int64{0, 1, 10, 11} {
				wantCode(t, "FirstPolymorphism", impl.ErrRange, impl.FirstPolymorphism, x, arity, kind)
			}
			wantCode(t, "PolymorphismWith", impl.ErrRange, impl.PolymorphismWith, x, arity, nil, nil)
			wantCode(t, "PolymorphismWith", impl.ErrRange, impl.PolymorphismWith, x, arity, [][]int64{{}}, []int64{0})
			if arity == 4 || arity == 5 {
				list := make([]int64, arity)
				wantCode(t, "PolymorphismWith", impl.ErrRange, impl.PolymorphismWith, x, arity, [][]int64{list, list}, []int64{0, 1})
			}
		}
		for _, kind := range append([]int64{0, 11, 12}, farAway...) {
			for arity := int64(1); arity <= 3; arity++ {
				wantCode(t, "FirstPolymorphism", impl.ErrRange, impl.FirstPolymorphism, x, arity, kind)
			}
		}
	}
}

func TestOrderOfErrorsOfSearches(t *testing.T) {
	_, more := listLimits(3)
	zero := []int64{0, 0, 0}
	// ErrRange, then ErrState, then ErrLimit
	wantCode(t, "PolymorphismWith", impl.ErrRange, impl.PolymorphismWith, more, 3, [][]int64{zero, zero, zero[:2]}, []int64{0, 1, 0})
	wantCode(t, "PolymorphismWith", impl.ErrRange, impl.PolymorphismWith, more, 3, [][]int64{zero, zero, zero}, []int64{0, 1})
	wantCode(t, "PolymorphismWith", impl.ErrRange, impl.PolymorphismWith, more, 3, [][]int64{zero, zero}, []int64{0, 4})
	wantCode(t, "PolymorphismWith", impl.ErrState, impl.PolymorphismWith, more, 3, [][]int64{zero, zero}, []int64{0, 1})
	wantCode(t, "PolymorphismWith", impl.ErrLimit, impl.PolymorphismWith, more, 3, [][]int64{zero, zero}, []int64{1, 1})
	// ErrState ahead of what a search would find
	wantCode(t, "PolymorphismWith", impl.ErrState, impl.PolymorphismWith, template(t, "2/1 0"), 1, [][]int64{{0}, {0}}, []int64{1, 0})
	wantCode(t, "FirstPolymorphism", impl.ErrRange, impl.FirstPolymorphism, more, 3, 11)
	for _, bad := range badTemplates() {
		for _, arity := range []int64{-1, 0, 1, 2, 3, 4} {
			wantCode(t, "PolymorphismsOf", impl.ErrInvalid, impl.PolymorphismsOf, bad, arity)
			wantCode(t, "CountPolymorphisms", impl.ErrInvalid, impl.CountPolymorphisms, bad, arity)
			wantCode(t, "FirstPolymorphism", impl.ErrInvalid, impl.FirstPolymorphism, bad, arity, 0)
			wantCode(t, "FirstPolymorphism", impl.ErrInvalid, impl.FirstPolymorphism, bad, arity, 3)
			wantCode(t, "PolymorphismWith", impl.ErrInvalid, impl.PolymorphismWith, bad, arity, nil, nil)
			wantCode(t, "PolymorphismWith", impl.ErrInvalid, impl.PolymorphismWith, bad, arity, [][]int64{{0}, {0}}, []int64{0, 1})
		}
		wantCode(t, "IsRigid", impl.ErrInvalid, impl.IsRigid, bad)
		wantCode(t, "IsPolymorphism", impl.ErrInvalid, impl.IsPolymorphism, bad, leastOf)
	}
	for _, bad := range badOps() {
		wantCode(t, "IsPolymorphism", impl.ErrInvalid, impl.IsPolymorphism, impl.Template{Size: 2}, bad)
		wantCode(t, "IsPolymorphism", impl.ErrInvalid, impl.IsPolymorphism, order(), bad)
	}
	wantCode(t, "IsPolymorphism", impl.ErrInvalid, impl.IsPolymorphism, round(), leastOf)
}

func TestLargeArgumentsOfSearches(t *testing.T) {
	many := slices.Repeat([][]int64{{0, 1}}, 300000)
	values := slices.Repeat([]int64{1}, len(many))
	f, code := impl.PolymorphismWith(order(), 2, many, values)
	same(t, "PolymorphismWith", []any{f, code}, "[{2 [0 1 0 1]} 0]")
	values[len(values)-1] = 0
	_, code = impl.PolymorphismWith(order(), 2, many, values)
	same(t, "PolymorphismWith", code, impl.ErrState)
	many[len(many)-1] = []int64{0, 2}
	_, code = impl.PolymorphismWith(order(), 2, many, values)
	same(t, "PolymorphismWith", code, impl.ErrRange)
	_, code = impl.HullOf(order(), many)
	same(t, "HullOf", code, impl.ErrRange)
	_, code = impl.IndicatorFormula(order(), [][]int64{make([]int64, 900000)})
	same(t, "IndicatorFormula", code, impl.ErrRange)
	_, code = impl.IsDefinable(order(), impl.Rel{Arity: 2, Tuples: many})
	same(t, "IsDefinable", code, impl.ErrInvalid)
	_, code = impl.IsPolymorphism(order(), impl.Op{Arity: 3, Table: make([]int64, 900000)})
	same(t, "IsPolymorphism", code, impl.ErrInvalid)
	_, code = impl.CountPolymorphisms(impl.Template{Size: 2, Rels: make([]impl.Rel, 300000)}, 2)
	same(t, "CountPolymorphisms", code, impl.ErrInvalid)
	_, code = impl.PolymorphismsOf(impl.Template{Size: 2, Rels: []impl.Rel{{Arity: 2, Tuples: many}}}, 2)
	same(t, "PolymorphismsOf", code, impl.ErrInvalid)
}
