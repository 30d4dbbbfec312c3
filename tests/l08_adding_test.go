package tests

import (
	"fmt"
	"math/rand/v2"
	"slices"
	"testing"

	"loop.example/g01085/impl"
)

// restricted returns an instance with only some constraints.
func restricted(y impl.Instance, keep []int64) impl.Instance {
	fewer := impl.Instance{Vars: y.Vars}
	for _, con := range keep {
		fewer.Cons = append(fewer.Cons, y.Cons[con])
	}
	return fewer
}

// reasonBy returns what SmallestReason has to return, by the definition.
func reasonBy(x impl.Template, y impl.Instance, budget int64) ([]int64, int64) {
	var kept []int64
	for con := range y.Cons {
		kept = append(kept, int64(con))
	}
	full := fullDomains(x.Size, y.Vars)
	if _, _, code := seekBy(x, y, full, budget); code != impl.ErrNotFound {
		return nil, map[int64]int64{impl.OK: impl.ErrState, impl.ErrBudget: impl.ErrBudget}[code]
	}
	for at := 0; at < len(kept); {
		fewer := slices.Delete(slices.Clone(kept), at, at+1)
		_, _, code := seekBy(x, restricted(y, fewer), full, budget)
		switch code {
		case impl.ErrBudget:
			return nil, code
		case impl.ErrNotFound:
			kept = fewer
		default:
			at++
		}
	}
	return kept, impl.OK
}

// checkReason compares the smallest reason with the definition, and with the
// solutions of some of its constraints.
func checkReason(t *testing.T, x impl.Template, y impl.Instance) []int64 {
	t.Helper()
	for _, budget := range []int64{0, 1, 2, 3, 4, 5, 7, 10} {
		reason, code := reasonBy(x, y, budget)
		wantCall(t, "SmallestReason", []any{reason, code}, impl.SmallestReason, x, y, budget)
	}
	reason, code := reasonBy(x, y, 5000)
	wantCall(t, "SmallestReason", []any{reason, code}, impl.SmallestReason, roomyTemplate(x), roomyInstance(y), 5000)
	if code != impl.OK {
		return nil
	}
	for at := range reason {
		fewer := slices.Delete(slices.Clone(reason), at, at+1)
		if len(solutionsBy(x, restricted(y, fewer))) == 0 {
			t.Errorf("the reason %v of %s does not need %d", reason, shortOf(y), reason[at])
		}
	}
	same(t, "solutions of the reason", solutionsBy(x, restricted(y, reason)), "[]")
	return reason
}

func TestReasonsByDefinition(t *testing.T) {
	smaller, count := 0, 0
	check := func(x impl.Template, y impl.Instance) {
		if reason := checkReason(t, x, y); len(reason) > 1 && len(reason) < len(y.Cons) {
			smaller++
		}
	}
	eachInstance(88, 100, func(x impl.Template, y impl.Instance) {
		if count++; count%3 == 0 {
			check(x, y)
		}
	})
	eachHard(88, 90, check)
	if smaller < 20 {
		t.Errorf("only %d reasons are smaller than the instance", smaller)
	}
}

// wantReason checks the smallest reason of an instance.
func wantReason(t *testing.T, x impl.Template, short string, want ...int64) {
	t.Helper()
	wantCall(t, "SmallestReason", []any{want, 0}, impl.SmallestReason, x, instance(short), 100)
	checkReason(t, x, instance(short))
}

func TestReasons(t *testing.T) {
	x := template(t, "2/2 01 10/1/1 0/1 1")
	// one constraint alone, the first one, the last one, and one among others
	wantReason(t, x, "1 1:0", 0)
	wantReason(t, x, "2 0:00 0:01", 0)
	wantReason(t, x, "2 0:01 0:11", 1)
	wantReason(t, x, "3 0:01 0:12 1:2 0:02", 2)
	// several reasons: the first ones are left out
	wantReason(t, x, "1 1:0 1:0", 1)
	wantReason(t, x, "2 1:0 1:1 0:11", 2)
	wantReason(t, x, "1 2:0 3:0 2:0", 1, 2)
	wantReason(t, x, "4 0:01 0:12 0:02 0:13 0:23", 1, 3, 4)
	wantReason(t, x, "4 0:23 0:13 0:01 0:12 0:02", 2, 3, 4)
	wantReason(t, x, "3 2:0 0:01 0:12 0:02 3:0", 1, 2, 3)
	wantReason(t, x, "3 0:01 0:12 0:02 2:0 3:0", 3, 4)
	// all of them
	wantReason(t, x, "3 2:0 0:01 0:12 3:2", 0, 1, 2, 3)
	wantReason(t, x, "5 0:01 0:12 0:23 0:34 0:40", 0, 1, 2, 3, 4)
	wantReason(t, x, "2"+repeated(" 0:01", 23)+" 1:1", 23)
	wantReason(t, x, "2 1:1"+repeated(" 0:01", 23), 0)
	for _, short := range []string{"1", "2 0:01", "3 0:01 0:12 2:0", "10"} {
		wantCode(t, "SmallestReason", impl.ErrState, impl.SmallestReason, x, instance(short), 100)
	}
	// what does not end: the whole instance, or the one with fewer constraints
	wantCode(t, "SmallestReason", impl.ErrBudget, impl.SmallestReason, x, instance("2 0:01"), 1)
	wantCode(t, "SmallestReason", impl.ErrBudget, impl.SmallestReason, x, triangle(), 2)
	wantCall(t, "SmallestReason", []any{"[0 1 2]", 0}, impl.SmallestReason, x, triangle(), 3)
	wantCall(t, "SearchFor", []any{"[]", 1, impl.ErrNotFound}, impl.SearchFor, x, instance("3 0:00 0:11"), 1)
	wantCall(t, "SmallestReason", []any{"[1]", 0}, impl.SmallestReason, x, instance("3 0:00 0:11"), 4)
	wantCode(t, "SmallestReason", impl.ErrBudget, impl.SmallestReason, x, instance("3 0:00 0:01"), 1)
	// with a solution nothing is left out any more, however long this would take
	wantCode(t, "SmallestReason", impl.ErrState, impl.SmallestReason, x, instance("3 0:01 0:12 2:0"), 1)
}

// addedBy returns what AddNoGoods has to return, by the definition.
func addedBy(x impl.Template, y impl.Instance, lists [][]impl.Literal) (impl.Template, impl.Instance) {
	for _, list := range lists {
		c := impl.Con{Rel: int64(len(x.Rels))}
		for _, l := range list {
			c.Scope = append(c.Scope, l.Var)
		}
		isOther := func(tuple []int64) bool {
			return slices.ContainsFunc(list, func(l impl.Literal) bool { return tuple[slices.Index(c.Scope, l.Var)] != l.Value })
		}
		x.Rels = append(slices.Clone(x.Rels), relWhere(x.Size, int64(len(list)), isOther))
		y.Cons = append(slices.Clone(y.Cons), c)
	}
	return x, y
}

// checkAdded compares the adding of no-goods with the definition, and the
// solutions ahead of it with those behind.
func checkAdded(t *testing.T, x impl.Template, y impl.Instance, lists [][]impl.Literal) {
	t.Helper()
	more, z := addedBy(x, y, lists)
	roomyLists := make([][]impl.Literal, 0, len(lists)+2)
	for _, list := range lists {
		roomyLists = append(roomyLists, roomyLiterals(list))
	}
	wantCall(t, "AddNoGoods", []any{more, z, 0}, impl.AddNoGoods, roomyTemplate(x), roomyInstance(y), roomyLists)
	same(t, "ValidInstance", impl.ValidInstance(more, z), true)
	var left [][]int64
	for _, values := range solutionsBy(x, y) {
		if !slices.ContainsFunc(lists, func(list []impl.Literal) bool { return fulfils(values, list) }) {
			left = append(left, values)
		}
	}
	same(t, fmt.Sprint("solutions with ", lists, " added"), solutionsBy(more, z), left)
}

func TestAddingByDefinition(t *testing.T) {
	source := rand.New(rand.NewPCG(89, 8))
	count := 0
	eachInstance(89, 100, func(x impl.Template, y impl.Instance) {
		if len(x.Rels) > 3 {
			return
		}
		var lists [][]impl.Literal
		for range source.IntN(4) {
			var list []impl.Literal
			for _, variable := range source.Perm(int(y.Vars))[:1+source.IntN(int(min(4, y.Vars)))] {
				list = append(list, impl.Literal{Var: int64(variable), Value: source.Int64N(x.Size)})
			}
			lists = append(lists, list)
		}
		checkAdded(t, x, y, lists)
	})
	// no-goods that are learnt change no solution, and none if there is none
	eachHard(89, 150, func(x impl.Template, y impl.Instance) {
		learnt, _ := impl.LearnNoGoods(x, y, 5000)
		tooLong := func(list []impl.Literal) bool { return len(list) > 4 }
		learnt = slices.DeleteFunc(learnt, tooLong)
		if room := 6 - len(x.Rels); len(learnt) > room {
			learnt = learnt[:room]
		}
		if count += len(learnt); len(learnt) > 0 {
			checkAdded(t, x, y, learnt)
		}
	})
	eachHard(90, 300, func(x impl.Template, y impl.Instance) {
		list := randomLiterals(source, x, y, 3)
		shrunk, code := impl.ShrinkNoGood(x, y, list, 5000)
		if code == impl.OK && len(shrunk) == 2 && shrunk[0].Var != shrunk[1].Var {
			more, z, _ := impl.AddNoGoods(x, y, [][]impl.Literal{shrunk})
			same(t, "solutions with a no-good", solutionsBy(more, z), solutionsBy(x, y))
			count++
		}
	})
	if count < 80 {
		t.Errorf("only %d no-goods are added", count)
	}
}

func TestAddedNoGoods(t *testing.T) {
	wantAdded := func(x impl.Template, y impl.Instance, rels, cons string, list ...string) {
		t.Helper()
		var lists [][]impl.Literal
		for _, short := range list {
			lists = append(lists, literals(short))
		}
		more, z, code := impl.AddNoGoods(x, y, lists)
		same(t, "AddNoGoods", []any{more.Rels, z.Cons, code}, []any{rels, cons, 0})
		checkAdded(t, x, y, lists)
	}
	two, y := impl.Template{Size: 2}, instance("5")
	wantAdded(two, y, "[]", "[]")
	wantAdded(two, y, "[{1 [[1]]}]", "[{0 [4]}]", "40")
	wantAdded(two, y, "[{1 [[0]]} {1 [[0]]}]", "[{0 [4]} {1 [4]}]", "41", "41")
	// the order of the literals tells that of the places
	wantAdded(two, y, "[{2 [[0 0] [1 0] [1 1]]}]", "[{0 [3 1]}]", "30 11")
	wantAdded(two, y, "[{2 [[0 0] [0 1] [1 1]]}]", "[{0 [1 3]}]", "11 30")
	wantAdded(two, y, "[{3 [[0 0 0] [0 0 1] [0 1 0] [0 1 1] [1 0 0] [1 1 0] [1 1 1]]}]", "[{0 [4 0 2]}]", "41 00 21")
	wantAdded(impl.Template{Size: 1}, y, "[{1 []} {4 []}]", "[{0 [2]} {1 [1 2 3 4]}]", "20", "10 20 30 40")
	wantAdded(swap(), instance("2 0:01"), "[{2 [[0 1] [1 0]]} {1 [[1]]} {2 [[0 1] [1 0] [1 1]]}]", "[{0 [0 1]} {1 [0]} {2 [1 0]}]", "00", "10 00")
	// as many tuples as there can be
	more, z, code := impl.AddNoGoods(impl.Template{Size: 4}, instance("10"), [][]impl.Literal{literals("93 00 82 11")})
	same(t, "AddNoGoods", []any{len(more.Rels[0].Tuples), more.Rels[0].Arity, z.Cons, code}, "[255 4 [{0 [9 0 8 1]}] 0]")
	wantCall(t, "HasTuple", []any{false, 0}, impl.HasTuple, 4, more.Rels[0], []int64{3, 0, 2, 1})
	// as many relations and constraints as there can be, and one more
	for rels := range 7 {
		lists := slices.Repeat([][]impl.Literal{literals("10 01")}, 6-rels)
		checkAdded(t, impl.Template{Size: 2, Rels: slices.Repeat([]impl.Rel{{Arity: 1}}, rels)}, instance("2"), lists)
		lists = append(lists, literals("10"))
		wantCode(t, "AddNoGoods", impl.ErrLimit, impl.AddNoGoods, impl.Template{Size: 2, Rels: slices.Repeat([]impl.Rel{{Arity: 1}}, rels)}, instance("2"), lists)
	}
	for cons := 22; cons <= 24; cons++ {
		lists := slices.Repeat([][]impl.Literal{literals("10 01")}, 24-cons)
		checkAdded(t, swap(), instance("2"+repeated(" 0:01", cons)), lists)
		lists = append(lists, literals("10"))
		wantCode(t, "AddNoGoods", impl.ErrLimit, impl.AddNoGoods, swap(), instance("2"+repeated(" 0:01", cons)), lists)
	}
}

func TestLiteralsThatCannotBeAdded(t *testing.T) {
	good := literals("00 10")
	bad := [][]impl.Literal{nil, {}, literals("00 10 20 30 40"), literals("00 01"), literals("00 00"), literals("00 10 00"), literals("10 20 30 11"), literals("50"), literals("02"), literals("00 12"), literals("60 00")}
	for _, number := range farAway {
		bad = append(bad, []impl.Literal{{Var: number}}, []impl.Literal{{Value: number}}, []impl.Literal{{Var: 1}, {Var: number, Value: number}})
	}
	full := impl.Template{Size: 2, Rels: slices.Repeat([]impl.Rel{{Arity: 1}}, 6)}
	for _, list := range bad {
		for _, lists := range [][][]impl.Literal{{list}, {good, list}, {list, good}, {good, good, good, good, good, good, list}, slices.Repeat([][]impl.Literal{list}, 30)} {
			wantCode(t, "AddNoGoods", impl.ErrRange, impl.AddNoGoods, swap(), instance("5 0:01"), lists)
			// ahead of the limit
			wantCode(t, "AddNoGoods", impl.ErrRange, impl.AddNoGoods, full, instance("5"), lists)
			wantCode(t, "AddNoGoods", impl.ErrInvalid, impl.AddNoGoods, swap(), instance("5 1:01"), lists)
		}
	}
	wantCode(t, "AddNoGoods", impl.ErrLimit, impl.AddNoGoods, full, instance("5"), [][]impl.Literal{good})
	wantCode(t, "AddNoGoods", impl.ErrLimit, impl.AddNoGoods, swap(), instance("5"), slices.Repeat([][]impl.Literal{good}, 100000))
	for _, lists := range [][][]impl.Literal{nil, {good}, {nil}, slices.Repeat([][]impl.Literal{good}, 30)} {
		for _, x := range badTemplates() {
			wantCode(t, "AddNoGoods", impl.ErrInvalid, impl.AddNoGoods, x, instance("1"), lists)
		}
		for _, y := range badInstances() {
			wantCode(t, "AddNoGoods", impl.ErrInvalid, impl.AddNoGoods, mixed(), y, lists)
		}
	}
}
