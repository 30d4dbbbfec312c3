package tests

import (
	"fmt"
	"math/rand/v2"
	"slices"
	"strings"
	"testing"

	"loop.example/g01085/impl"
)

// literals returns the literals that a short text tells, such as "01 12": of each
// the variable and the value.
func literals(short string) []impl.Literal {
	var list []impl.Literal
	for _, word := range strings.Fields(short) {
		list = append(list, impl.Literal{Var: int64(word[0] - '0'), Value: int64(word[1] - '0')})
	}
	return list
}

// roomyLiterals returns the same literals in a slice that has capacity left.
func roomyLiterals(list []impl.Literal) []impl.Literal {
	room := append(make([]impl.Literal, 0, len(list)+2), list...)
	copy(room[len(room):cap(room)], []impl.Literal{{Var: 9}, {Value: 9}})
	return room
}

// fulfils reports whether values have all literals of a list.
func fulfils(values []int64, list []impl.Literal) bool {
	return !slices.ContainsFunc(list, func(l impl.Literal) bool { return values[l.Var] != l.Value })
}

// noGoodBy tells by the definition whether a search finds that a list is a
// no-good, or how it ends.
func noGoodBy(x impl.Template, y impl.Instance, list []impl.Literal, budget int64) (bool, int64) {
	domains := fullDomains(x.Size, y.Vars)
	for _, l := range list {
		isOther := func(value int64) bool { return value != l.Value }
		domains[l.Var] = slices.DeleteFunc(domains[l.Var], isOther)
	}
	_, _, code := seekBy(x, y, domains, budget)
	if code == impl.ErrBudget {
		return false, code
	}
	return code == impl.ErrNotFound, impl.OK
}

// shrunkBy returns what ShrinkNoGood has to return, by the definition.
func shrunkBy(x impl.Template, y impl.Instance, list []impl.Literal, budget int64) ([]impl.Literal, int64) {
	isNoGood, code := noGoodBy(x, y, list, budget)
	if code != impl.OK {
		return nil, code
	}
	if !isNoGood {
		return nil, impl.ErrState
	}
	left := slices.Clone(list)
	for at := 0; at < len(left); {
		fewer := slices.Delete(slices.Clone(left), at, at+1)
		isNoGood, code := noGoodBy(x, y, fewer, budget)
		if code != impl.OK {
			return nil, code
		}
		if isNoGood {
			left = fewer
		} else {
			at++
		}
	}
	return left, impl.OK
}

// checkNoGood compares what is said of literals with the definition, and with the
// solutions, and reports whether they are a no-good.
func checkNoGood(t *testing.T, x impl.Template, y impl.Instance, list []impl.Literal) bool {
	t.Helper()
	isNoGood, code := noGoodBy(x, y, list, 5000)
	wantCall(t, "IsNoGood", []any{isNoGood, code}, impl.IsNoGood, roomyTemplate(x), roomyInstance(y), roomyLiterals(list), 5000)
	isFulfilled := slices.ContainsFunc(solutionsBy(x, y), func(values []int64) bool { return fulfils(values, list) })
	same(t, fmt.Sprint("no-good ", list, " of ", shortOf(y)), isNoGood, !isFulfilled)
	shrunk, code := shrunkBy(x, y, list, 5000)
	wantCall(t, "ShrinkNoGood", []any{shrunk, code}, impl.ShrinkNoGood, roomyTemplate(x), roomyInstance(y), roomyLiterals(list), 5000)
	if isNoGood {
		wantCall(t, "ShrinkNoGood of what is left", []any{shrunk, 0}, impl.ShrinkNoGood, x, y, shrunk, 5000)
		wantCall(t, "IsNoGood of what is left", []any{true, 0}, impl.IsNoGood, x, y, shrunk, 5000)
	}
	for _, budget := range []int64{0, 1, 2, 3, 5} {
		isNoGood, code := noGoodBy(x, y, list, budget)
		wantCall(t, "IsNoGood", []any{isNoGood, code}, impl.IsNoGood, x, y, list, budget)
		shrunk, code := shrunkBy(x, y, list, budget)
		wantCall(t, "ShrinkNoGood", []any{shrunk, code}, impl.ShrinkNoGood, x, y, list, budget)
	}
	return isNoGood
}

// randomLiterals returns so many literals, which may come several times.
func randomLiterals(source *rand.Rand, x impl.Template, y impl.Instance, count int) []impl.Literal {
	var list []impl.Literal
	for range count {
		list = append(list, impl.Literal{Var: source.Int64N(y.Vars), Value: source.Int64N(x.Size)})
	}
	return list
}

func TestNoGoodsByDefinition(t *testing.T) {
	source := rand.New(rand.NewPCG(85, 8))
	noGoods, others := 0, 0
	check := func(x impl.Template, y impl.Instance) {
		lists := [][]impl.Literal{nil, randomLiterals(source, x, y, 1), randomLiterals(source, x, y, 2), randomLiterals(source, x, y, 3), randomLiterals(source, x, y, 6)}
		if solutions := solutionsBy(x, y); len(solutions) > 0 {
			var part []impl.Literal
			for variable, value := range solutions[len(solutions)/2] {
				part = append(part, impl.Literal{Var: int64(variable), Value: value})
			}
			lists = append(lists, part, part[1:], append(slices.Clone(part), part...))
		}
		for _, list := range lists {
			if checkNoGood(t, x, y, list) {
				noGoods++
			} else {
				others++
			}
		}
	}
	count := 0
	eachInstance(86, 100, func(x impl.Template, y impl.Instance) {
		if count++; count%4 == 0 {
			check(x, y)
		}
	})
	eachHard(86, 60, check)
	if noGoods < 200 || others < 200 {
		t.Errorf("only %d no-goods, and %d others", noGoods, others)
	}
}

// wantNoGood checks what is left of a no-good.
func wantNoGood(t *testing.T, x impl.Template, short, list, left string) {
	t.Helper()
	wantCall(t, "IsNoGood", []any{true, 0}, impl.IsNoGood, x, instance(short), literals(list), 100)
	wantCall(t, "ShrinkNoGood", []any{literals(left), 0}, impl.ShrinkNoGood, x, instance(short), literals(list), 100)
	checkNoGood(t, x, instance(short), literals(list))
}

func TestNoGoods(t *testing.T) {
	wantNoGood(t, swap(), "3 0:01 0:02", "10 00", "10 00")
	wantNoGood(t, swap(), "3 0:01 0:02", "20 10 00", "10 00")
	wantNoGood(t, swap(), "3 0:01 0:02", "10 00 20", "00 20")
	wantNoGood(t, swap(), "3 0:01 0:02", "10 21 00", "10 00")
	wantNoGood(t, swap(), "3 0:01 0:02", "00 10 21", "10 21")
	wantNoGood(t, swap(), "3 0:01 0:12", "00 10 20", "10 20")
	// already smallest, and all can be left out
	wantNoGood(t, example(), "3 0:01 0:12 1:0", "00", "00")
	wantNoGood(t, example(), "3 0:01 0:12 1:0", "11", "11")
	wantNoGood(t, example(), "3 0:01 0:12 1:0", "01 10 20", "20")
	wantNoGood(t, swap(), triangleShort, "10 00", "")
	wantNoGood(t, swap(), triangleShort, "", "")
	wantNoGood(t, template(t, "2/1"), "1 0:0", "00 01 00", "")
	// literals that come twice, and two values of one variable
	wantNoGood(t, swap(), "2 0:01", "00 00 10 10", "00 10")
	wantNoGood(t, swap(), "2 0:01", "00 10 00", "10 00")
	wantNoGood(t, swap(), "2 0:01", "00 01", "00 01")
	wantNoGood(t, swap(), "2 0:01", "01 00", "01 00")
	wantNoGood(t, swap(), "2 0:01", "00 10 01 11", "01 11")
	wantNoGood(t, template(t, "4"), "3", "20 21 22 23", "22 23")
	wantNoGood(t, template(t, "4"), "3", "20 21 20 21", "20 21")
	for _, list := range []string{"", "00", "01", "00 11", "00 00", "11 00 21", "01 10 20"} {
		wantCall(t, "IsNoGood", []any{false, 0}, impl.IsNoGood, swap(), instance("3 0:01 0:02"), literals(list), 100)
		wantCode(t, "ShrinkNoGood", impl.ErrState, impl.ShrinkNoGood, swap(), instance("3 0:01 0:02"), literals(list), 100)
		checkNoGood(t, swap(), instance("3 0:01 0:02"), literals(list))
	}
}

func TestBudgetsOfNoGoods(t *testing.T) {
	// an empty domain at the beginning takes a step, though nothing is made
	wantCode(t, "IsNoGood", impl.ErrBudget, impl.IsNoGood, swap(), instance("2 0:01"), literals("00 01"), 0)
	wantCall(t, "IsNoGood", []any{true, 0}, impl.IsNoGood, swap(), instance("2 0:01"), literals("00 01"), 1)
	// the list itself takes a step, and that without its literals three
	wantCall(t, "IsNoGood", []any{true, 0}, impl.IsNoGood, swap(), triangle(), literals("00"), 1)
	wantCode(t, "ShrinkNoGood", impl.ErrBudget, impl.ShrinkNoGood, swap(), triangle(), literals("00"), 2)
	wantCall(t, "ShrinkNoGood", []any{"[]", 0}, impl.ShrinkNoGood, swap(), triangle(), literals("00"), 3)
	// that a list is none comes ahead of what is asked without its literals
	wantCall(t, "SearchFor", []any{"[0 1]", 2, 0}, impl.SearchFor, swap(), instance("2 0:01"), 2)
	wantCode(t, "ShrinkNoGood", impl.ErrState, impl.ShrinkNoGood, swap(), instance("2 0:01"), literals("00"), 1)
	wantCode(t, "ShrinkNoGood", impl.ErrBudget, impl.ShrinkNoGood, swap(), instance("2 0:01"), literals("00"), 0)
	wantCode(t, "ShrinkNoGood", impl.ErrBudget, impl.ShrinkNoGood, swap(), instance("2 0:01"), literals("00 10"), 0)
	for _, number := range append([]int64{2, 3}, farAway...) {
		for _, l := range []impl.Literal{{Var: number + number%2, Value: 0}, {Var: 0, Value: number}, {Var: number, Value: number}} {
			for _, list := range [][]impl.Literal{{l}, append(literals("00 01"), l), append([]impl.Literal{l}, literals("10 00")...)} {
				for _, budget := range []int64{0, 1, 5000, -1} {
					wantCode(t, "IsNoGood", impl.ErrRange, impl.IsNoGood, swap(), instance("2 0:01"), list, budget)
					wantCode(t, "ShrinkNoGood", impl.ErrRange, impl.ShrinkNoGood, swap(), instance("2 0:01"), list, budget)
				}
			}
		}
	}
}

func TestManyLiterals(t *testing.T) {
	var list []impl.Literal
	for i := range 300000 {
		list = append(list, impl.Literal{Var: int64(i % 7), Value: int64(i % 4)})
	}
	x, y := sums(), instance("10 0:01")
	isNoGood, code := impl.IsNoGood(x, y, list, 5000)
	same(t, "IsNoGood", []any{isNoGood, code}, []any{true, 0})
	shrunk, code := impl.ShrinkNoGood(x, y, list, 5000)
	// the last literals for one variable that have different values
	same(t, "ShrinkNoGood", []any{shrunk, code}, []any{literals("00 03"), 0})
}

// learntBy returns the no-goods of a refutation, by the definition: the choices
// that are behind no end of their level.
func learntBy(list []impl.Line) [][]impl.Literal {
	var learnt [][]impl.Literal
	for end, l := range list[:len(list)-1] {
		if l.Kind != impl.LnEmpty {
			continue
		}
		var choices []impl.Literal
		ended := 0
		for i := end - 1; i >= 0; i-- {
			switch {
			case list[i].Kind == impl.LnEmpty:
				ended++
			case list[i].Kind == impl.LnChoose && ended > 0:
				ended--
			case list[i].Kind == impl.LnChoose:
				choices = append(choices, impl.Literal{Var: list[i].Var, Value: list[i].Value})
			}
		}
		slices.Reverse(choices)
		learnt = append(learnt, choices)
	}
	return learnt
}

func TestLearntByDefinition(t *testing.T) {
	most := 0
	check := func(x impl.Template, y impl.Instance) {
		s, _, code := seekBy(x, y, fullDomains(x.Size, y.Vars), 5000)
		if code == impl.OK {
			wantCode(t, "LearnNoGoods", impl.ErrNotFound, impl.LearnNoGoods, x, y, 5000)
			return
		}
		learnt := learntBy(s.lines)
		wantCall(t, "LearnNoGoods", []any{learnt, 0}, impl.LearnNoGoods, roomyTemplate(x), roomyInstance(y), s.steps)
		wantCode(t, "LearnNoGoods", impl.ErrBudget, impl.LearnNoGoods, x, y, s.steps-1)
		for _, list := range learnt {
			wantCall(t, "IsNoGood", []any{true, 0}, impl.IsNoGood, x, y, list, s.steps)
		}
		most = max(most, len(learnt))
	}
	eachInstance(87, 300, check)
	eachHard(87, 200, check)
	if most < 8 {
		t.Errorf("%d no-goods are most", most)
	}
}

func TestLearntNoGoods(t *testing.T) {
	wantLearnt := func(x impl.Template, short string, want ...string) {
		t.Helper()
		var list [][]impl.Literal
		for _, learnt := range want {
			list = append(list, literals(learnt))
		}
		wantCall(t, "LearnNoGoods", []any{list, 0}, impl.LearnNoGoods, x, instance(short), 100)
	}
	wantLearnt(swap(), triangleShort, "00")
	clique := template(t, "3/2 01 02 10 12 20 21/1 1 2")
	wantLearnt(clique, "4 0:01 0:02 0:03 0:12 0:13 0:23 1:3", "31 00", "31", "00")
	wantLearnt(clique, "4 0:01 0:02 0:03 0:12 0:13 0:23", "00 11", "00", "01 10", "01", "10")
	// refuted without a choice
	wantLearnt(example(), "3 0:01 0:12 1:0 0:02")
	wantLearnt(template(t, "1/1"), "1 0:0")
	wantCode(t, "LearnNoGoods", impl.ErrNotFound, impl.LearnNoGoods, swap(), instance("2 0:01"), 100)
	wantCode(t, "LearnNoGoods", impl.ErrNotFound, impl.LearnNoGoods, example(), colours(), 1)
	// up to MaxLearnt
	y := instance("10 1:479 1:978 2:172 0:86 0:84 1:823 1:053 2:260 1:143 5:6 5:5")
	s, _, _ := seekBy(sums(), y, fullDomains(4, 10), 5000)
	same(t, "how many are learnt", len(learntBy(s.lines)), 200)
	wantCall(t, "LearnNoGoods", []any{learntBy(s.lines), 0}, impl.LearnNoGoods, sums(), y, 401)
	wantCode(t, "LearnNoGoods", impl.ErrBudget, impl.LearnNoGoods, sums(), y, 400)
	y = instance("10 3:6728 4:3 1:276 1:649 1:593 1:349 1:547 2:514 1:960 2:382 0:30")
	s, _, _ = seekBy(sums(), y, fullDomains(4, 10), 5000)
	same(t, "how many are learnt", len(learntBy(s.lines)), 201)
	wantCode(t, "RefuteInstance", impl.OK, impl.RefuteInstance, sums(), y, 403)
	wantCode(t, "LearnNoGoods", impl.ErrLimit, impl.LearnNoGoods, sums(), y, 403)
	wantCode(t, "LearnNoGoods", impl.ErrBudget, impl.LearnNoGoods, sums(), y, 402)
	for _, short := range []string{withMaxLines, withOneMore, withManyLines} {
		wantCode(t, "LearnNoGoods", impl.ErrLimit, impl.LearnNoGoods, sums(), instance(short), 5000)
	}
	wantCode(t, "LearnNoGoods", impl.ErrNotFound, impl.LearnNoGoods, sums(), instance(withSolution), 5000)
}
