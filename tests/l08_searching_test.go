package tests

import (
	"fmt"
	"math/rand/v2"
	"slices"
	"strings"
	"testing"

	"loop.example/g01085/impl"
)

// noBudgets are numbers that are no budgets of a search.
var noBudgets = append([]int64{-2, 5001, 5002, 10000}, farAway[0], farAway[2], farAway[3])

// lines returns the lines that a short text tells, such as "c00 r102 e1": the
// first letter of the word, and digits.
func lines(short string) []impl.Line {
	var list []impl.Line
	for _, word := range strings.Fields(short) {
		numbers := [3]int64{}
		for i, digit := range word[1:] {
			numbers[i] = int64(digit - '0')
		}
		list = append(list, impl.Line{Kind: int64(strings.Index(" cre", word[:1])), Var: numbers[0], Value: numbers[1], Con: numbers[2]})
	}
	return list
}

// shortLines writes lines of a refutation down, such that lines tells them again.
func shortLines(list []impl.Line) string {
	var words []string
	for _, l := range list {
		numbers := fmt.Sprint(l.Var, l.Value, l.Con)
		words = append(words, " cre"[l.Kind:l.Kind+1]+strings.ReplaceAll(numbers, " ", "")[:[]int{0, 2, 3, 1}[l.Kind]])
	}
	return strings.Join(words, " ")
}

// seeker searches by the definition.
type seeker struct {
	x      impl.Template
	y      impl.Instance
	budget int64
	steps  int64
	lines  []impl.Line
}

func isNone(values []int64) bool { return len(values) == 0 }

// arcs makes arcs until a domain is empty, and returns what is left.
func (s *seeker) arcs(domains [][]int64) [][]int64 {
	for removed := !slices.ContainsFunc(domains, isNone); removed; {
		removed = false
		for con, c := range s.y.Cons {
			for place, variable := range c.Scope {
				for _, value := range domains[variable] {
					if hasSupport(s.x, c, place, value, domains) {
						continue
					}
					domains = without(domains, variable, value)
					s.lines = append(s.lines, impl.Line{Kind: impl.LnRemove, Var: variable, Value: value, Con: int64(con)})
					if removed = true; len(domains[variable]) == 0 {
						return domains
					}
				}
			}
		}
	}
	return domains
}

// level goes through a level and those above it. It returns the solution, or
// ErrNotFound if the level ends, or ErrBudget.
func (s *seeker) level(domains [][]int64) ([]int64, int64) {
	for {
		if s.steps == s.budget {
			return nil, impl.ErrBudget
		}
		s.steps++
		domains = s.arcs(domains)
		if empty := slices.IndexFunc(domains, isNone); empty >= 0 {
			s.lines = append(s.lines, impl.Line{Kind: impl.LnEmpty, Var: int64(empty)})
			return nil, impl.ErrNotFound
		}
		chosen := -1
		for i, values := range domains {
			if len(values) > 1 && (chosen < 0 || len(values) < len(domains[chosen])) {
				chosen = i
			}
		}
		if chosen < 0 {
			return slices.Concat(domains...), impl.OK
		}
		value := domains[chosen][0]
		s.lines = append(s.lines, impl.Line{Kind: impl.LnChoose, Var: int64(chosen), Value: value})
		above := slices.Clone(domains)
		above[chosen] = []int64{value}
		if values, code := s.level(above); code != impl.ErrNotFound {
			return values, code
		}
		domains = without(domains, int64(chosen), value)
	}
}

// seekBy searches from domains on with all lines that there may be.
func seekBy(x impl.Template, y impl.Instance, domains [][]int64, budget int64) (*seeker, []int64, int64) {
	s := seeker{x: x, y: y, budget: budget}
	values, code := s.level(domains)
	return &s, values, code
}

// checkSearch compares what a search finds with the definition, with the budgets
// near that which is needed, and returns the search.
func checkSearch(t *testing.T, x impl.Template, y impl.Instance) *seeker {
	t.Helper()
	s, values, code := seekBy(x, y, fullDomains(x.Size, y.Vars), 5000)
	if code == impl.ErrBudget {
		t.Fatalf("%s takes too many steps", shortOf(y))
	}
	for _, budget := range []int64{0, s.steps / 2, s.steps - 1} {
		wantCall(t, "SearchFor", []any{"[]", 0, impl.ErrBudget}, impl.SearchFor, x, y, budget)
		wantCode(t, "RefuteInstance", impl.ErrBudget, impl.RefuteInstance, x, y, budget)
	}
	for _, budget := range []int64{s.steps, s.steps + 1, 5000} {
		wantCall(t, "SearchFor", []any{values, s.steps, code}, impl.SearchFor, roomyTemplate(x), roomyInstance(y), budget)
		if code == impl.OK {
			wantCode(t, "RefuteInstance", impl.ErrNotFound, impl.RefuteInstance, x, y, budget)
			continue
		}
		wantCall(t, "RefuteInstance", []any{s.lines, 0}, impl.RefuteInstance, roomyTemplate(x), roomyInstance(y), budget)
	}
	isThere := func(solution []int64) bool { return slices.Equal(solution, values) }
	if solutions := solutionsBy(x, y); slices.ContainsFunc(solutions, isThere) != (len(solutions) > 0) {
		t.Errorf("%v is found for %s", values, shortOf(y))
	}
	return s
}

// eachHard runs a check for instances of few values for which there is more to
// do: few of them have a solution that arcs find.
func eachHard(seed uint64, count int, check func(x impl.Template, y impl.Instance)) {
	source := rand.New(rand.NewPCG(seed, 8))
	for i := range count {
		x := impl.Template{Size: 2 + int64(i)%3}
		for range 1 + source.IntN(3) {
			percent, rest := 35+source.IntN(40), source.Int64N(x.Size)
			x.Rels = append(x.Rels, relWhere(x.Size, 2+source.Int64N(2), func(values []int64) bool {
				if i%2 == 0 && len(values) == 3 {
					return (values[0]+values[1]+values[2])%x.Size == rest
				}
				return source.IntN(100) < percent
			}))
		}
		y := impl.Instance{Vars: 4 + source.Int64N(8-x.Size)/2}
		for range y.Vars + source.Int64N(2*y.Vars) {
			c := impl.Con{Rel: source.Int64N(int64(len(x.Rels)))}
			for _, variable := range source.Perm(int(y.Vars))[:x.Rels[c.Rel].Arity] {
				c.Scope = append(c.Scope, int64(variable))
			}
			y.Cons = append(y.Cons, c)
		}
		check(x, y)
	}
}

func TestExampleOfChapter8(t *testing.T) {
	short := "c00 r100 r201 r112 e1 r110 r211 r102 e1"
	wantCall(t, "RefuteInstance", []any{lines(short), 0}, impl.RefuteInstance, swap(), triangle(), 100)
	wantCall(t, "SmallestReason", []any{"[0 1 2]", 0}, impl.SmallestReason, swap(), triangle(), 100)
	text := "choose 0 0\nremove 1 0 0\nremove 2 0 1\nremove 1 1 2\nempty 1\nremove 1 1 0\nremove 2 1 1\nremove 1 0 2\nempty 1\n"
	wantCall(t, "RefutationText", []any{text}, impl.RefutationText, lines(short))
	wantCall(t, "ReadRefutation", []any{lines(short), 0}, impl.ReadRefutation, text)
	wantCall(t, "CheckRefutation", []any{9, 0}, impl.CheckRefutation, swap(), triangle(), lines(short))
	wantCall(t, "SearchFor", []any{"[]", 3, impl.ErrNotFound}, impl.SearchFor, swap(), triangle(), 3)
}

func TestNumbersOfChapter8(t *testing.T) {
	same(t, "limits", []int64{impl.MaxSearch, impl.MaxLines, impl.MaxLearnt}, []int64{5000, 4000, 200})
	same(t, "kinds", []int64{impl.LnChoose, impl.LnRemove, impl.LnEmpty}, []int64{1, 2, 3})
}

func TestLevelsByDefinition(t *testing.T) {
	eachInstance(81, 300, func(x impl.Template, y impl.Instance) { checkSearch(t, x, y) })
	refuted, longest := 0, 0
	eachHard(82, 400, func(x impl.Template, y impl.Instance) {
		s := checkSearch(t, x, y)
		if len(solutionsBy(x, y)) == 0 {
			refuted++
			longest = max(longest, len(s.lines))
		}
	})
	if refuted < 80 || longest < 100 {
		t.Errorf("only %d instances are refuted, and %d lines are most", refuted, longest)
	}
}

// wantSeek checks what a search finds with the budget that is just enough: a
// solution such as "01", or the lines of a refutation; and what the definition
// tells.
func wantSeek(t *testing.T, x impl.Template, short, found string, steps int64) {
	t.Helper()
	y := instance(short)
	if found[0] >= '0' && found[0] <= '9' {
		wantCall(t, "SearchFor", []any{instance("9 0:" + found).Cons[0].Scope, steps, 0}, impl.SearchFor, x, y, steps)
	} else {
		wantCall(t, "SearchFor", []any{"[]", steps, impl.ErrNotFound}, impl.SearchFor, x, y, steps)
		wantCall(t, "RefuteInstance", []any{lines(found), 0}, impl.RefuteInstance, x, y, steps)
		same(t, "shortLines", shortLines(lines(found)), found)
	}
	checkSearch(t, x, y)
}

func TestSearchesWithSolutions(t *testing.T) {
	// arcs alone find it
	wantSeek(t, example(), "3 0:01 0:12 1:0", "101", 1)
	wantSeek(t, impl.Template{Size: 1}, "4", "0000", 1)
	wantSeek(t, less(), "4 0:23 0:12 0:01", "0123", 1)
	// one choice, and several, each of the first value
	wantSeek(t, example(), "2 0:01", "01", 2)
	wantSeek(t, example(), "3", "000", 4)
	wantSeek(t, impl.Template{Size: 4}, "2", "00", 3)
	wantSeek(t, template(t, "4/1 2 3"), "3 0:1", "020", 4)
	// choices that are not right: the first solution that is found need not be the first one
	wantSeek(t, template(t, "2/3 000 011 101 110/3 001 010 100 111"), "4 0:012 1:013 0:023 0:123", "1101", 7)
	wantSeek(t, template(t, "2/2 00 01 10/3 001 010 100 111"), "3 0:01 0:02 1:012", "001", 3)
	wantSeek(t, template(t, "3/2 01 02 10 20/1 1 2"), "2 0:01 1:1", "01", 2)
	// the variable 1 has the fewest values, and is chosen first
	late := template(t, "3/1 1 2/2 02 10 11 21")
	wantSeek(t, late, "2 0:1 1:01", "11", 3)
	wantCall(t, "FirstSolution", []any{"[0 2]", 0}, impl.FirstSolution, late, instance("2 0:1 1:01"))
}

func TestOrderOfLines(t *testing.T) {
	// arcs stop as soon as a domain is empty: the other variables keep their values
	wantSeek(t, template(t, "4/2"), "2 0:01", "r000 r010 r020 r030 e0", 1)
	wantSeek(t, template(t, "2/2"), "2 0:10", "r100 r110 e1", 1)
	wantSeek(t, template(t, "4/2/1 0"), "3 1:2 0:12 0:01", "r210 r220 r230 r101 r111 r121 r131 e1", 1)
	wantSeek(t, example(), "3 0:01 0:12 1:0 0:02", "r002 r213 r110 r101 e1", 1)
	wantSeek(t, template(t, "1/1"), "1 0:0", "r000 e0", 1)
	// the same variable at several places
	wantSeek(t, swap(), "2 0:11", "r100 r110 e1", 1)
	// two levels of the same height, and arcs that are made again in the level below
	wantSeek(t, template(t, "2/2 01 10/3 000 011 101 110"), "4 1:012 1:013 0:23 0:01", "c00 r103 r200 r301 r212 e2 r113 r200 r301 r212 e2", 3)
	// the variable with the fewest values is chosen, though it is the last one, and
	// then the first one of several; both levels end one after the other
	clique := template(t, "3/2 01 02 10 12 20 21/1 1 2/1 0 1")
	wantSeek(t, clique, "4 0:01 0:02 0:03 0:12 0:13 0:23 1:3", "r306 c31 r012 r114 r215 c00 r100 r201 r123 e1 r120 r221 r103 e1 r022 r124 r225 c00 r100 r201 r113 e1 r110 r211 r103 e1", 7)
	wantSeek(t, clique, "4 0:01 0:02 0:03 0:12 0:13 0:23", "c00 r100 r201 r302 c11 r213 r314 r225 e2 r223 r324 r215 e2 c01 r110 r211 r312 c10 r203 r304 r225 e2 r223 r324 r205 e2 r120 r221 r322 c10 r203 r304 r215 e2 r213 r314 r205 e2", 11)
	// a value that is removed in the level below may be the last one but one, or not
	wantSeek(t, clique, "5 0:34 0:42 0:32 2:4 2:3 2:2", "r423 r324 r225 c20 r401 r302 r310 e3 r411 r312 r300 e3", 3)
}

// sums is a template of which instances take many steps: different values, sums
// modulo 4, and some values alone.
func sums() impl.Template {
	sumIs := func(rest int64) func(values []int64) bool {
		return func(values []int64) bool {
			sum := int64(0)
			for _, value := range values {
				sum += value
			}
			return sum%4 == rest
		}
	}
	return impl.Template{Size: 4, Rels: []impl.Rel{
		relWhere(4, 2, func(values []int64) bool { return values[0] != values[1] }),
		relWhere(4, 3, sumIs(0)),
		relWhere(4, 3, sumIs(1)),
		relWhere(4, 4, sumIs(0)),
		relWhere(4, 1, func(values []int64) bool { return values[0] < 2 }),
		relWhere(4, 1, func(values []int64) bool { return values[0] < 3 }),
	}}
}

// Instances of sums: with a refutation of MaxLines lines, of one more, and of
// many more; with a solution behind as many lines; and a clique of five variables
// behind five that are in no constraint, which takes more than MaxSearch steps.
const (
	withMaxLines  = "10 1:830 3:2873 4:0 1:695 0:60 1:043 2:072 5:5 0:16"
	withOneMore   = "10 1:638 3:5027 2:495 2:095 4:3 3:0753 1:729 1:274 2:963"
	withManyLines = "10 4:9 1:289 2:605 4:1 1:056"
	withSolution  = "10 4:1 1:943 0:02 2:945 0:06 1:351 2:685 0:72 0:70"
	withoutEnd    = "10 0:56 0:57 0:58 0:59 0:67 0:68 0:69 0:78 0:79 0:89"
)

func TestRefutationsUpToMaxLines(t *testing.T) {
	x := sums()
	for _, c := range []struct {
		short  string
		steps  int64
		lines  int
		code   int64
		refute int64
	}{
		{withMaxLines, 863, 4000, impl.ErrNotFound, impl.OK},
		{withOneMore, 543, 4001, impl.ErrNotFound, impl.ErrLimit},
		{withManyLines, 4095, 14483, impl.ErrNotFound, impl.ErrLimit},
		// that there is a solution comes ahead of the limit, and the budget of both
		{withSolution, 1165, 5396, impl.OK, impl.ErrNotFound},
	} {
		y := instance(c.short)
		s, values, code := seekBy(x, y, fullDomains(4, 10), 5000)
		same(t, "what is told of "+c.short, []any{s.steps, len(s.lines), code}, []any{c.steps, c.lines, c.code})
		for _, budget := range []int64{c.steps, 5000} {
			wantCall(t, "SearchFor", []any{values, c.steps, code}, impl.SearchFor, x, y, budget)
			wantCode(t, "RefuteInstance", c.refute, impl.RefuteInstance, x, y, budget)
		}
		wantCode(t, "SearchFor", impl.ErrBudget, impl.SearchFor, x, y, c.steps-1)
		wantCode(t, "RefuteInstance", impl.ErrBudget, impl.RefuteInstance, x, y, c.steps-1)
		if c.refute == impl.OK {
			wantCall(t, "RefuteInstance", []any{s.lines, 0}, impl.RefuteInstance, x, y, c.steps)
			wantCall(t, "CheckRefutation", []any{4000, 0}, impl.CheckRefutation, x, y, s.lines)
		}
	}
	for _, budget := range []int64{0, 1, 4999, 5000} {
		wantCode(t, "SearchFor", impl.ErrBudget, impl.SearchFor, x, instance(withoutEnd), budget)
		wantCode(t, "RefuteInstance", impl.ErrBudget, impl.RefuteInstance, x, instance(withoutEnd), budget)
	}
}

// wantBudgeted checks the code of all functions with a budget.
func wantBudgeted(t *testing.T, want int64, x impl.Template, y impl.Instance, list []impl.Literal, budget int64) {
	t.Helper()
	wantCode(t, "SearchFor", want, impl.SearchFor, x, y, budget)
	wantCode(t, "RefuteInstance", want, impl.RefuteInstance, x, y, budget)
	wantCode(t, "LearnNoGoods", want, impl.LearnNoGoods, x, y, budget)
	wantCode(t, "SmallestReason", want, impl.SmallestReason, x, y, budget)
	wantCode(t, "IsNoGood", want, impl.IsNoGood, x, y, list, budget)
	wantCode(t, "ShrinkNoGood", want, impl.ShrinkNoGood, x, y, list, budget)
}

func TestErrorsAheadOfSearches(t *testing.T) {
	none := []impl.Literal{{Var: 9, Value: 9}}
	for _, budget := range append([]int64{0, 5000}, noBudgets...) {
		for _, x := range badTemplates() {
			wantBudgeted(t, impl.ErrInvalid, x, instance("1"), none, budget)
		}
		for _, y := range badInstances() {
			wantBudgeted(t, impl.ErrInvalid, mixed(), y, none, budget)
		}
	}
	for _, budget := range noBudgets {
		wantBudgeted(t, impl.ErrRange, swap(), triangle(), none, budget)
		wantBudgeted(t, impl.ErrRange, swap(), triangle(), nil, budget)
		wantBudgeted(t, impl.ErrRange, sums(), instance(withoutEnd), nil, budget)
	}
	for _, budget := range []int64{0, 1, 2} {
		wantBudgeted(t, impl.ErrBudget, swap(), triangle(), nil, budget)
	}
	wantBudgeted(t, impl.ErrBudget, sums(), instance(withoutEnd), nil, 5000)
}
