package tests

import (
	"fmt"
	"math"
	"math/rand/v2"
	"runtime"
	"slices"
	"strings"
	"testing"
	"time"

	"loop.example/g01085/impl"
)

// house returns a house with so many clerks, and with the jobs that short texts
// tell.
func house(x impl.Template, clerks int64, shorts ...string) impl.House {
	h := impl.House{Template: x, Clerks: clerks}
	for _, short := range shorts {
		h.Jobs = append(h.Jobs, instance(short))
	}
	return h
}

// roomyHouse returns the same house in slices that have capacity left.
func roomyHouse(h impl.House) impl.House {
	jobs := make([]impl.Instance, 0, len(h.Jobs)+2)
	for _, x := range h.Jobs {
		jobs = append(jobs, roomyInstance(x))
	}
	copy(jobs[len(jobs):cap(jobs)], []impl.Instance{{Vars: 9}, {Vars: 8}})
	return impl.House{Template: roomyTemplate(h.Template), Jobs: jobs, Clerks: h.Clerks}
}

// exampleHouse is the house of the example of chapter 10.
func exampleHouse() impl.House { return house(swap(), 1, "2 0:01", "3 0:01 0:12 0:02") }

// mixedHouse has jobs with verdicts of several kinds: a solution, pairs, arcs, and
// a solution that is one even if it is spoilt.
func mixedHouse(clerks int64) impl.House {
	return house(swap(), clerks, "2 0:01", "3 0:01 0:02 0:12", "1 0:00", "1")
}

// parityHouse has jobs with equations: numbers, a solution, and numbers again.
func parityHouse(t *testing.T) impl.House {
	return house(template(t, "2/3 001 010 100 111/1 0"), 2, "1 0:000 1:0", "3 0:012 1:0", "2 0:000 0:111 1:0 1:1")
}

// boundHouse has jobs with arcs, and with solutions that have values up to 3.
func boundHouse(t *testing.T) impl.House {
	x := template(t, "4/1 3/1 2/1 1/2 00 01 02 03 11 12 13 22 23 33")
	return house(x, 3, "3 0:0 1:1 3:10", "2 0:0 1:1 3:01", "2 1:0 2:1", "1 1:0 2:0")
}

// verdictsBy returns the verdicts of SolveWith of all jobs, false if one of them
// has an error.
func verdictsBy(h impl.House) ([]impl.Verdict, bool) {
	var list []impl.Verdict
	for _, x := range h.Jobs {
		_, v, code := impl.SolveWith(h.Template, x)
		if code != impl.OK {
			return nil, false
		}
		list = append(list, v)
	}
	return list, true
}

// isHouseBy tells by the definition whether a house is valid.
func isHouseBy(h impl.House) bool {
	_, ok := verdictsBy(h)
	return ok && 1 <= len(h.Jobs) && len(h.Jobs) <= 4 && 1 <= h.Clerks && h.Clerks <= 3
}

// checkHouse compares what is said of a house with the definition, and reports
// whether it is valid.
func checkHouse(t *testing.T, h impl.House) bool {
	t.Helper()
	isHouse := isHouseBy(h)
	wantCall(t, "ValidHouse", []any{isHouse}, impl.ValidHouse, roomyHouse(h))
	if !isHouse {
		wantCode(t, "VerdictsOf", impl.ErrInvalid, impl.VerdictsOf, roomyHouse(h))
		return false
	}
	list, _ := verdictsBy(h)
	wantCall(t, "VerdictsOf", []any{list, 0}, impl.VerdictsOf, roomyHouse(h))
	return true
}

// noClerks are numbers of clerks that no house has.
var noClerks = []int64{0, -1, 4, 5, 1000, math.MaxInt64, math.MinInt64}

// badHouses are not valid, each one for one reason.
func badHouses(t *testing.T) []impl.House {
	list := []impl.House{{}, house(swap(), 1), house(swap(), 3), house(swap(), 1, "1", "1", "1", "1", "1"), house(swap(), 3, slices.Repeat([]string{"2 0:01"}, 1000)...)}
	for _, clerks := range noClerks {
		list = append(list, house(swap(), clerks, "2 0:01"), house(swap(), clerks), house(swap(), clerks, "1", "1", "1", "1"))
	}
	for _, x := range badTemplates() {
		list = append(list, house(x, 1, "1"))
	}
	// instances that are not valid, each at some place
	for _, short := range []string{"0", "11", "2 1:0", "2 0:0", "2 0:012", "2 0:02", "3 0:01 0:13", "2" + repeated(" 0:01", 25)} {
		list = append(list, house(swap(), 1, short), house(swap(), 2, short, "2 0:01"), house(swap(), 2, "2 0:01", short), house(swap(), 3, "1", "1", "1", short))
	}
	// errors of SolveWith: there is no way for the template, or too many equations
	none, parities := template(t, "2/3 001 010 100"), template(t, "2/3 001 010 100 111/1 0/4 0110")
	list = append(list, house(none, 1, "3 0:012"), house(none, 1, "1"), house(none, 2, "3", "3 0:012"))
	many := "4" + repeated(" 2:0123", 6) + " 1:0"
	return append(list, house(parities, 1, many), house(parities, 2, "1", many), house(parities, 3, many, "1", "1 1:0"), house(parities, 3, "1", "1", "1", many))
}

func TestExampleOfChapter10(t *testing.T) {
	h := exampleHouse()
	wantCall(t, "ValidHouse", []any{true}, impl.ValidHouse, h)
	results := call(t, impl.FinishDeeds, h, []impl.Deed{})
	plan := results[0].([]impl.Deed)
	same(t, "number of deeds", []any{len(plan), results[1]}, []any{9, 0})
	wantCall(t, "AnswerAfter", []any{"{true {0 [0 1] [] [] []}}", 0}, impl.AnswerAfter, h, plan, 0)
	a, code := impl.AnswerAfter(h, plan, 1)
	same(t, "answer of the job 1", []any{a.Known, a.Verdict.Kind, code}, []any{true, impl.VkPairs, 0})
}

func TestNumbersOfChapter10(t *testing.T) {
	same(t, "limits", []int64{impl.MaxJobs, impl.MaxClerks, impl.MaxWire, impl.MaxDeeds, impl.MaxScriptText, impl.MaxScriptLines}, []int64{4, 3, 8, 200, 10000, 120})
	same(t, "kinds", []int64{impl.DdGive, impl.DdWork, impl.DdDeliver, impl.DdCopy, impl.DdDrop, impl.DdSpoil, impl.DdSave, impl.DdCrash}, []int64{1, 2, 3, 4, 5, 6, 7, 8})
}

func TestHousesOfAllNumbers(t *testing.T) {
	for jobs := range 7 {
		for _, clerks := range append([]int64{1, 2, 3}, noClerks...) {
			isHouse := checkHouse(t, house(swap(), clerks, slices.Repeat([]string{"2 0:01"}, jobs)...))
			same(t, fmt.Sprint(jobs, " jobs and ", clerks, " clerks"), isHouse, 1 <= jobs && jobs <= 4 && 1 <= clerks && clerks <= 3)
		}
	}
	for _, h := range badHouses(t) {
		same(t, "a bad house", checkHouse(t, h), false)
	}
	// a template without relations, and exactly MaxEquations equations
	same(t, "no relations", checkHouse(t, house(impl.Template{Size: 3}, 2, "10", "1", "5")), true)
	same(t, "MaxEquations", checkHouse(t, house(template(t, "2/3 001 010 100 111/1 0/4 0110"), 2, "1 0:000 1:0", "4"+repeated(" 2:0123", 6))), true)
}

func TestVerdictsOfKinds(t *testing.T) {
	pairs := "{2 [] [] [{0 1 2} {0 2 1} {1 2 0}] []}"
	for clerks := int64(1); clerks <= 3; clerks++ {
		same(t, "mixed house", checkHouse(t, mixedHouse(clerks)), true)
		wantCall(t, "VerdictsOf", []any{"[{0 [0 1] [] [] []} " + pairs + " {1 [] [{0 0 0} {0 1 0}] [] []} {0 [0] [] [] []}]", 0}, impl.VerdictsOf, mixedHouse(clerks))
		// the same jobs in another order
		wantCall(t, "VerdictsOf", []any{"[{0 [0] [] [] []} " + pairs + " {0 [0 1] [] [] []} " + pairs + "]", 0}, impl.VerdictsOf, house(swap(), clerks, "1", "3 0:01 0:02 0:12", "2 0:01", "3 0:01 0:02 0:12"))
	}
	same(t, "equations", checkHouse(t, parityHouse(t)), true)
	wantCall(t, "VerdictsOf", []any{"[{3 [] [] [] [1 1]} {0 [0 1 0] [] [] []} {3 [] [] [] [1 0 1 0]}]", 0}, impl.VerdictsOf, parityHouse(t))
	same(t, "bounds", checkHouse(t, boundHouse(t)), true)
	list, _ := impl.VerdictsOf(boundHouse(t))
	same(t, "kinds", []any{list[0].Kind, list[0].Values, list[1].Kind, list[2].Values, list[3].Kind}, []any{0, []int64{3, 2, 0}, 1, []int64{2, 1}, 1})
	wantCall(t, "a constant", []any{"[{0 [0 0 0] [] [] []} {0 [0] [] [] []}]", 0}, impl.VerdictsOf, house(order(), 3, "3 0:01 0:12", "1 0:00"))
}

// drawnHouse returns a house with a template, which may not be valid.
func drawnHouse(source *rand.Rand, x impl.Template) impl.House {
	h := impl.House{Template: x, Clerks: 1 + source.Int64N(3)}
	for range 1 + source.IntN(4) {
		h.Jobs = append(h.Jobs, randomInstance(source, x, 1+source.Int64N(5), source.IntN(7)))
	}
	return h
}

// eachHouse runs a check for so many houses that are valid for each of many
// templates, if there are any.
func eachHouse(seed uint64, count int, check func(h impl.House)) {
	source := rand.New(rand.NewPCG(seed, 10))
	for _, x := range waysTemplates(seed) {
		for range count {
			if h := drawnHouse(source, x); isHouseBy(h) {
				check(h)
			}
		}
	}
}

func TestHousesByDefinition(t *testing.T) {
	source := rand.New(rand.NewPCG(1, 10))
	valid, others, kinds := 0, 0, map[int64]int{}
	for _, x := range waysTemplates(101) {
		h := drawnHouse(source, x)
		if !checkHouse(t, h) {
			others++
			continue
		}
		valid++
		list, _ := impl.VerdictsOf(h)
		for i, v := range list {
			kinds[v.Kind]++
			checkSolved(t, x, h.Jobs[i], v)
		}
	}
	if valid < 60 || others < 20 || kinds[0] < 60 || kinds[1] < 15 || kinds[2] < 10 || kinds[3] < 10 {
		t.Errorf("too few houses: %d %d %v", valid, others, kinds)
	}
}

// TestClerksEnd checks that no goroutine is left behind calls.
func TestClerksEnd(t *testing.T) {
	before := runtime.NumGoroutine()
	for range 300 {
		impl.ValidHouse(mixedHouse(3))
		impl.ValidHouse(house(swap(), 3, "2 0:01", "3 0:0", "1"))
		impl.RunScript(mixedHouse(2), "give 0 0\ncrash")
	}
	for range 100 {
		if runtime.NumGoroutine() <= before {
			return
		}
		time.Sleep(10 * time.Millisecond) // one that is just ending still counts
	}
	t.Errorf("%d goroutines, %d before", runtime.NumGoroutine(), before)
}

// spoiltBy returns what SpoiltVerdict has to return, by the definition.
func spoiltBy(v impl.Verdict) impl.Verdict {
	w := roomyVerdict(v)
	if v.Kind == 0 {
		if len(v.Values) > 0 {
			w.Values[0] = 1 - v.Values[0]
			if v.Values[0] > 1 {
				w.Values[0] = 0
			}
		}
		return w
	}
	if n := len(v.Arcs); n > 0 {
		w.Arcs = w.Arcs[:n-1]
	}
	if n := len(v.Pairs); n > 0 {
		w.Pairs = w.Pairs[:n-1]
	}
	if n := len(v.Numbers); n > 0 {
		w.Numbers = w.Numbers[:n-1]
	}
	return w
}

func checkSpoilt(t *testing.T, v impl.Verdict) {
	t.Helper()
	wantCall(t, "SpoiltVerdict", []any{spoiltBy(v)}, impl.SpoiltVerdict, roomyVerdict(v))
	if got := impl.SpoiltVerdict(v); !impl.SameVerdict(got, spoiltBy(v)) {
		t.Errorf("SpoiltVerdict of %v: %v", v, got)
	}
}

func TestSpoiltVerdicts(t *testing.T) {
	for _, c := range []struct {
		v    impl.Verdict
		want string
	}{
		// the first value of a solution
		{impl.Verdict{Values: []int64{0}}, "{0 [1] [] [] []}"}, {impl.Verdict{Values: []int64{1}}, "{0 [0] [] [] []}"}, {impl.Verdict{Values: []int64{2}}, "{0 [0] [] [] []}"}, {impl.Verdict{Values: []int64{3}}, "{0 [0] [] [] []}"},
		{impl.Verdict{Values: []int64{0, 0, 3}}, "{0 [1 0 3] [] [] []}"}, {impl.Verdict{Values: []int64{1, 1, 2}}, "{0 [0 1 2] [] [] []}"}, {impl.Verdict{Values: []int64{2, 3}}, "{0 [0 3] [] [] []}"}, {impl.Verdict{Values: []int64{3, 2}}, "{0 [0 2] [] [] []}"},
		// no values, and values that are none
		{impl.Verdict{}, "{0 [] [] [] []}"}, {impl.Verdict{Values: []int64{}}, "{0 [] [] [] []}"}, {impl.Verdict{Values: []int64{-1}}, "{0 [2] [] [] []}"}, {impl.Verdict{Values: []int64{math.MaxInt64, 1}}, "{0 [0 1] [] [] []}"},
		// a solution with fields that it does not use
		{impl.Verdict{Values: []int64{1}, Arcs: []impl.ArcStep{{Var: 1}}, Pairs: []impl.PairStep{{J: 1}}, Numbers: []int64{1, 0}}, "{0 [0] [{1 0 0}] [{0 1 0}] [1 0]}"}, {impl.Verdict{Arcs: []impl.ArcStep{{Var: 1}}, Numbers: []int64{1}}, "{0 [] [{1 0 0}] [] [1]}"},
		// the last one of each list
		{impl.Verdict{Kind: 1, Arcs: []impl.ArcStep{{Var: 1}, {Value: 1}, {Con: 1}}}, "{1 [] [{1 0 0} {0 1 0}] [] []}"}, {impl.Verdict{Kind: 1, Arcs: []impl.ArcStep{{Var: 1}}}, "{1 [] [] [] []}"}, {impl.Verdict{Kind: 1}, "{1 [] [] [] []}"},
		{impl.Verdict{Kind: 2, Pairs: []impl.PairStep{{J: 1, Through: 2}, {J: 2, Through: 1}}}, "{2 [] [] [{0 1 2}] []}"}, {impl.Verdict{Kind: 2, Pairs: []impl.PairStep{{I: 1}}}, "{2 [] [] [] []}"}, {impl.Verdict{Kind: 2}, "{2 [] [] [] []}"},
		{impl.Verdict{Kind: 3, Numbers: []int64{1, 2, 0}}, "{3 [] [] [] [1 2]}"}, {impl.Verdict{Kind: 3, Numbers: []int64{1}}, "{3 [] [] [] []}"}, {impl.Verdict{Kind: 3}, "{3 [] [] [] []}"},
		// lists that the kind does not use, some of them and all
		{impl.Verdict{Kind: 1, Values: []int64{0, 1}, Pairs: []impl.PairStep{{I: 1}, {J: 1}}, Numbers: []int64{5, 6}}, "{1 [0 1] [] [{1 0 0}] [5]}"}, {impl.Verdict{Kind: 2, Values: []int64{3}, Arcs: []impl.ArcStep{{Var: 1}}, Numbers: []int64{1}}, "{2 [3] [] [] []}"}, {impl.Verdict{Kind: 3, Values: []int64{0}, Arcs: []impl.ArcStep{{}, {}}, Pairs: []impl.PairStep{{}}}, "{3 [0] [{0 0 0}] [] []}"}, {impl.Verdict{Kind: 3, Values: []int64{1, 0}, Arcs: []impl.ArcStep{{}, {}}, Pairs: []impl.PairStep{{}, {}}, Numbers: []int64{0, 0}}, "{3 [1 0] [{0 0 0}] [{0 0 0}] [0]}"},
		// kinds that are none are others than VkSolution
		{impl.Verdict{Kind: 4, Values: []int64{0}, Arcs: []impl.ArcStep{{}}, Pairs: []impl.PairStep{{}}, Numbers: []int64{0}}, "{4 [0] [] [] []}"}, {impl.Verdict{Kind: -1, Values: []int64{2}, Numbers: []int64{0, 1}}, "{-1 [2] [] [] [0]}"}, {impl.Verdict{Kind: math.MinInt64}, "{-9223372036854775808 [] [] [] []}"},
	} {
		wantCall(t, "SpoiltVerdict", []any{c.want}, impl.SpoiltVerdict, roomyVerdict(c.v))
		checkSpoilt(t, c.v)
	}
	for _, v := range differentVerdicts() {
		checkSpoilt(t, v)
	}
	eachHouse(102, 2, func(h impl.House) {
		list, _ := impl.VerdictsOf(h)
		for _, v := range list {
			for range 3 {
				checkSpoilt(t, v)
				v = impl.SpoiltVerdict(v)
			}
		}
	})
}

// deedWords has the word of each kind of deeds at its number.
var deedWords = []string{"", "give", "work", "deliver", "copy", "drop", "spoil", "save", "crash"}

// deeds returns the deeds that a short text tells, such as "give 0 1, deliver 0, save".
func deeds(short string) []impl.Deed {
	var list []impl.Deed
	for _, text := range strings.Split(short, ",") {
		var d impl.Deed
		var word string
		if count, _ := fmt.Sscan(text, &word, &d.A, &d.B); count > 0 {
			d.Kind = int64(slices.Index(deedWords, word))
			list = append(list, d)
		}
	}
	return list
}

// roomyDeeds returns the same deeds in a slice that has capacity left.
func roomyDeeds(list []impl.Deed) []impl.Deed {
	room := append(make([]impl.Deed, 0, len(list)+2), list...)
	copy(room[len(room):cap(room)], []impl.Deed{{Kind: 9}, {A: 8}})
	return room
}

// invalidHouseCalls calls all functions with a house or with deeds that are not
// valid, and with arguments that would have other errors, too.
func invalidHouseCalls(t *testing.T, h impl.House, list []impl.Deed) {
	t.Helper()
	wantCode(t, "HallAfter", impl.ErrInvalid, impl.HallAfter, h, list)
	wantCode(t, "RefusedDeed", impl.ErrInvalid, impl.RefusedDeed, h, list)
	wantCode(t, "FinishDeeds", impl.ErrInvalid, impl.FinishDeeds, h, list)
	for _, job := range []int64{0, -1, 4, math.MaxInt64} {
		wantCode(t, "AnswerAfter", impl.ErrInvalid, impl.AnswerAfter, h, list, job)
	}
}

func TestInvalidHouses(t *testing.T) {
	for i, h := range badHouses(t) {
		if len(h.Jobs) > 100 {
			continue // written down too often
		}
		invalidHouseCalls(t, h, nil)
		invalidHouseCalls(t, h, deeds("give 0 0, deliver 0, work 0, deliver 0"))
		if i%10 == 0 {
			invalidHouseCalls(t, h, slices.Repeat(deeds("save"), 201)) // too many, too
			invalidHouseCalls(t, h, []impl.Deed{{}})
		}
		for _, text := range []string{"", "save\n", "job 0", strings.Repeat("x", 10001), strings.Repeat("\n", 121)} {
			wantCode(t, "RunScript", impl.ErrInvalid, impl.RunScript, h, text)
		}
	}
	// a house that is too large to be looked at for long
	h := house(swap(), 1, slices.Repeat([]string{"1"}, 5)...)
	h.Jobs = slices.Repeat(h.Jobs, 100000)
	same(t, "half a million jobs", impl.ValidHouse(h), false)
}

func TestInvalidDeeds(t *testing.T) {
	good := deeds("give 0 0, deliver 0, work 0")
	for i, d := range noDeeds() {
		for at := range len(good) + 1 {
			invalidHouseCalls(t, exampleHouse(), slices.Insert(slices.Clone(good), at, d))
		}
		if i%20 == 0 {
			invalidHouseCalls(t, exampleHouse(), append(slices.Repeat(deeds("save"), 250), d)) // too many, too
		}
	}
	for _, list := range [][]impl.Deed{slices.Repeat(deeds("save"), 201), slices.Repeat(deeds("give 0 0"), 1000)} {
		wantCode(t, "HallAfter", impl.ErrRange, impl.HallAfter, exampleHouse(), list)
		wantCode(t, "RefusedDeed", impl.ErrRange, impl.RefusedDeed, exampleHouse(), list)
		wantCode(t, "FinishDeeds", impl.ErrRange, impl.FinishDeeds, exampleHouse(), list)
		wantCode(t, "AnswerAfter", impl.ErrRange, impl.AnswerAfter, exampleHouse(), list, 0)
	}
}
