package tests

import (
	"fmt"
	"math"
	"math/rand/v2"
	"slices"
	"testing"

	"loop.example/g01085/impl"
)

// isValidBy tells by the definition whether a system is valid.
func isValidBy(s impl.System) bool {
	if s.Prime != 2 && s.Prime != 3 || s.Unknowns < 1 || s.Unknowns > 12 || len(s.List) > 24 {
		return false
	}
	isNone := func(number int64) bool { return number < 0 || number >= s.Prime }
	return !slices.ContainsFunc(s.List, func(e impl.Equation) bool {
		return int64(len(e.Left)) != s.Unknowns || isNone(e.Right) || slices.ContainsFunc(e.Left, isNone)
	})
}

// nearSystems returns systems that differ from another one in one number, or in
// the length of one list.
func nearSystems(s impl.System) []impl.System {
	var near []impl.System
	change := func(by func(s *impl.System)) {
		other := roomySystem(s)
		by(&other)
		near = append(near, other)
	}
	for _, by := range []int64{-1, 1, 2, math.MaxInt64, math.MinInt64} {
		change(func(s *impl.System) { s.Prime += by })
		change(func(s *impl.System) { s.Unknowns += by })
		for i, e := range s.List {
			change(func(s *impl.System) { s.List[i].Right += by })
			for unknown := range e.Left {
				change(func(s *impl.System) { s.List[i].Left[unknown] += by })
			}
		}
	}
	for i, e := range s.List {
		change(func(s *impl.System) { s.List = slices.Delete(s.List, i, i+1) })
		change(func(s *impl.System) { s.List = slices.Insert(s.List, i, roomyEquation(e)) })
		change(func(s *impl.System) { s.List[i].Left = append(s.List[i].Left, 0) })
		if len(e.Left) > 0 {
			change(func(s *impl.System) { s.List[i].Left = s.List[i].Left[1:] })
		}
	}
	change(func(s *impl.System) { s.List = append(s.List, impl.Equation{}) })
	change(func(s *impl.System) {
		s.List = append(s.List, impl.Equation{Left: make([]int64, max(0, s.Unknowns%100))})
	})
	return near
}

// goodSystems are systems that are valid, of all extremes.
func goodSystems() []impl.System {
	var list []impl.System
	for _, short := range []string{
		"2 1", "3 1", "2 12", "3 12", "2 1 0=0", "2 1 0=1", "2 1 1=0", "3 1 2=2", "2 3 110=1 011=1 101=1", "3 2 11=0 22=1 00=2 11=0", "3 12 222222222222=2", "2 12 101010101010=1",
		"2 1" + repeated(" 1=0", 24), "3 12" + repeated(" 012012012012=1", 24), "2 2" + repeated(" 00=0 11=1", 12),
	} {
		list = append(list, system(short))
	}
	return list
}

func TestNearSystems(t *testing.T) {
	valid := 0
	for _, s := range goodSystems() {
		wantCall(t, "ValidSystem", []any{true}, impl.ValidSystem, roomySystem(s))
		wantCall(t, "SameSystem", []any{true}, impl.SameSystem, s, roomySystem(s))
		for _, near := range nearSystems(s) {
			same(t, fmt.Sprint("ValidSystem of ", near), impl.ValidSystem(near), isValidBy(near))
			same(t, fmt.Sprint("SameSystem of ", s, near), impl.SameSystem(s, near), false)
			same(t, fmt.Sprint("SameSystem of ", near, s), impl.SameSystem(near, s), false)
			if isValidBy(near) {
				valid++
			}
		}
	}
	if valid < 200 {
		t.Errorf("only %d near systems are valid", valid)
	}
}

func TestSameSystem(t *testing.T) {
	all := append(goodSystems(), badSystems()...)
	for _, s := range all {
		for _, other := range all {
			// what is written down tells all numbers and lists
			same(t, fmt.Sprint("SameSystem of ", s, other), impl.SameSystem(s, other), fmt.Sprint(s) == fmt.Sprint(other))
		}
		wantCall(t, "SameSystem", []any{true}, impl.SameSystem, roomySystem(s), s)
	}
	for _, s := range badSystems() {
		for _, near := range nearSystems(s) {
			wantCall(t, "SameSystem", []any{false}, impl.SameSystem, s, near)
		}
	}
	// nil and empty lists are the same, valid or not, whichever side has them
	for _, c := range [][2]impl.System{
		{{Prime: 2, Unknowns: 1}, {Prime: 2, Unknowns: 1, List: []impl.Equation{}}}, {{}, {List: []impl.Equation{}}}, {{List: []impl.Equation{{}}}, {List: []impl.Equation{{Left: []int64{}}}}},
	} {
		wantCall(t, "SameSystem", []any{true}, impl.SameSystem, c[0], c[1])
		wantCall(t, "SameSystem", []any{true}, impl.SameSystem, c[1], c[0])
		same(t, "ValidSystem", impl.ValidSystem(c[0]), impl.ValidSystem(c[1]))
	}
	// equations have an order, and are not the same as what they say
	for _, c := range [][2]string{{"2 2 10=0 01=0", "2 2 01=0 10=0"}, {"2 2 10=0", "2 2 10=0 10=0"}, {"3 1 1=1", "3 1 2=2"}, {"2 1", "2 1 0=0"}, {"2 1 0=1", "2 1 1=0 1=1"}} {
		wantCall(t, "SameSystem", []any{false}, impl.SameSystem, system(c[0]), system(c[1]))
	}
}

func TestHoldsIn(t *testing.T) {
	counts := map[bool]int{}
	eachSystem(11, 120, func(s impl.System) {
		s.List = s.List[:min(len(s.List), 3)]
		for _, values := range listsOf(s.Prime, s.Unknowns) {
			holds := !slices.ContainsFunc(s.List, func(e impl.Equation) bool { return !holdsBy(s.Prime, e, values) })
			wantCall(t, "HoldsIn", []any{holds, 0}, impl.HoldsIn, roomySystem(s), roomyList(values...))
			counts[holds]++
		}
	})
	if counts[true] < 300 || counts[false] < 300 {
		t.Errorf("too few lists: %v", counts)
	}
	// without equations all values hold, and each equation counts
	wantCall(t, "HoldsIn", []any{true, 0}, impl.HoldsIn, system("3 2"), []int64{2, 1})
	wantCall(t, "HoldsIn", []any{true, 0}, impl.HoldsIn, system("3 2 12=1 00=0"), []int64{2, 1})
	wantCall(t, "HoldsIn", []any{false, 0}, impl.HoldsIn, system("3 2 12=1 00=1"), []int64{2, 1})
	wantCall(t, "HoldsIn", []any{false, 0}, impl.HoldsIn, system("3 2 12=1 21=0"), []int64{2, 1})
	wantCall(t, "HoldsIn", []any{true, 0}, impl.HoldsIn, system("3 12 222222222222=0"), []int64{2, 2, 2, 2, 2, 2, 2, 2, 2, 2, 2, 2})
	for _, s := range []impl.System{system("2 2"), system("2 2 11=0"), system("2 2 00=1"), system("3 2"), system("3 2 12=0")} {
		for _, values := range [][]int64{nil, {}, {0}, {1}, {0, 0, 0}, {1, 1, 0}, {0, s.Prime}, {s.Prime, 0}, {0, -1}, {-1, 0}, {0, math.MaxInt64}, {math.MinInt64, 0}} {
			wantCode(t, "HoldsIn", impl.ErrRange, impl.HoldsIn, s, values)
		}
	}
}

// checkAnswers compares what is said of the answers of a system with the
// definition, and returns their number.
func checkAnswers(t *testing.T, s impl.System) int {
	t.Helper()
	answers := answersBy(s)
	wantCall(t, "CountAnswers", []any{len(answers), 0}, impl.CountAnswers, roomySystem(s))
	if len(answers) > impl.MaxAnswers {
		wantCall(t, "AnswersOf", []any{"[]", impl.ErrLimit}, impl.AnswersOf, roomySystem(s))
	} else {
		wantCall(t, "AnswersOf", []any{answers, 0}, impl.AnswersOf, roomySystem(s))
	}
	if s.Unknowns <= impl.MaxArity {
		r := impl.Rel{Arity: s.Unknowns, Tuples: answers}
		wantCall(t, "RelOfSystem", []any{r, 0}, impl.RelOfSystem, roomySystem(s))
		same(t, "ValidRel", impl.ValidRel(s.Prime, r), true)
	} else {
		wantCode(t, "RelOfSystem", impl.ErrRange, impl.RelOfSystem, roomySystem(s))
	}
	if len(answers) == 0 {
		wantCode(t, "RankOfSystem", impl.ErrState, impl.RankOfSystem, roomySystem(s))
		return 0
	}
	// each equation that is left divides the number of answers by the prime
	rank := int64(0)
	for count := int64(len(answers)); count < int64(len(listsOf(s.Prime, s.Unknowns))); count *= s.Prime {
		rank++
	}
	wantCall(t, "RankOfSystem", []any{rank, 0}, impl.RankOfSystem, roomySystem(s))
	same(t, "equations of the reduced form of "+shortSystem(s), rank, len(reducedBy(s).List))
	return len(answers)
}

func TestAnswersByDefinition(t *testing.T) {
	counts := map[int]int{}
	eachSystem(12, 300, func(s impl.System) { counts[checkAnswers(t, s)]++ })
	for _, s := range allSystems(2, 2, 2) {
		counts[checkAnswers(t, s)]++
	}
	for _, number := range []int{0, 1, 2, 3, 4, 8, 9, 27} {
		if counts[number] < 5 {
			t.Errorf("too few systems with %d answers: %v", number, counts)
		}
	}
}

func TestKnownAnswers(t *testing.T) {
	for _, c := range []struct{ s, rank, count, answers string }{
		{"2 3 110=1 011=1", "2", "2", "[[0 1 0] [1 0 1]]"}, {"2 3 110=1 011=1 101=1", "none", "0", "[]"},
		{"2 1", "0", "2", "[[0] [1]]"}, {"3 1", "0", "3", "[[0] [1] [2]]"}, {"2 1 0=0", "0", "2", "[[0] [1]]"}, {"3 1 0=2", "none", "0", "[]"},
		// one answer
		{"2 2 11=1 01=1", "2", "1", "[[0 1]]"}, {"3 2 12=2 11=0 00=0", "2", "1", "[[1 2]]"}, {"3 1 2=1 2=1", "1", "1", "[[2]]"},
		// in order, though the later unknowns tell the earlier ones
		{"2 2 11=1", "1", "2", "[[0 1] [1 0]]"}, {"3 2 11=2", "1", "3", "[[0 2] [1 1] [2 0]]"}, {"3 2 12=1", "1", "3", "[[0 2] [1 0] [2 1]]"}, {"2 3 111=0", "1", "4", "[[0 0 0] [0 1 1] [1 0 1] [1 1 0]]"},
		{"2 3 101=1", "1", "4", "[[0 0 1] [0 1 1] [1 0 0] [1 1 0]]"}, {"3 3 102=1 010=2", "2", "3", "[[0 2 2] [1 2 0] [2 2 1]]"},
		// unknowns that no equation has
		{"2 3 010=1", "1", "4", "[[0 1 0] [0 1 1] [1 1 0] [1 1 1]]"}, {"3 2 02=1", "1", "3", "[[0 2] [1 2] [2 2]]"},
	} {
		s := system(c.s)
		checkAnswers(t, s)
		wantCall(t, "CountAnswers", []any{c.count, 0}, impl.CountAnswers, s)
		wantCall(t, "AnswersOf", []any{c.answers, 0}, impl.AnswersOf, s)
		wantCall(t, "RelOfSystem", []any{fmt.Sprintf("{%d %s}", s.Unknowns, c.answers), 0}, impl.RelOfSystem, s)
		if c.rank == "none" {
			wantCode(t, "RankOfSystem", impl.ErrState, impl.RankOfSystem, s)
		} else {
			wantCall(t, "RankOfSystem", []any{c.rank, 0}, impl.RankOfSystem, s)
		}
	}
}

// unitSystem returns the system that says of the first unknowns, so many, that
// they are 1.
func unitSystem(prime, unknowns, count int64) impl.System {
	s := impl.System{Prime: prime, Unknowns: unknowns}
	for i := range count {
		e := impl.Equation{Left: make([]int64, unknowns), Right: 1}
		e.Left[i] = 1
		s.List = append(s.List, e)
	}
	return s
}

func TestLimitOfAnswers(t *testing.T) {
	most := map[int64]int64{2: 8, 3: 5} // 256 and 243 answers; 512 and 729 are too many
	for prime, open := range most {
		power := int64(1)
		for unknowns := int64(1); unknowns <= 12; unknowns++ {
			power *= prime
			// as many answers as there can be
			wantCall(t, "CountAnswers", []any{power, 0}, impl.CountAnswers, unitSystem(prime, unknowns, 0))
			wantCall(t, "RankOfSystem", []any{0, 0}, impl.RankOfSystem, unitSystem(prime, unknowns, 0))
			want := int64(impl.OK)
			if unknowns > open {
				want = impl.ErrLimit
			}
			wantCode(t, "AnswersOf", want, impl.AnswersOf, unitSystem(prime, unknowns, 0))
			wantCode(t, "AnswersOf", impl.OK, impl.AnswersOf, unitSystem(prime, 12, max(unknowns, 12-open)))
			wantCall(t, "RankOfSystem", []any{unknowns, 0}, impl.RankOfSystem, unitSystem(prime, 12, unknowns))
		}
		checkAnswers(t, unitSystem(prime, open, 0))
		checkAnswers(t, unitSystem(prime, open+1, 0))
		checkAnswers(t, unitSystem(prime, open+2, 2))
		wantCode(t, "AnswersOf", impl.ErrLimit, impl.AnswersOf, unitSystem(prime, 12, 11-open))
		list, _ := impl.AnswersOf(unitSystem(prime, 12, 12-open))
		same(t, "sorted", slices.IsSortedFunc(list, slices.Compare[[]int64]), true)
		// no answers are none, however many unknowns there are
		none := unitSystem(prime, 12, 0)
		none.List = []impl.Equation{{Left: make([]int64, 12), Right: 1}}
		wantCall(t, "AnswersOf", []any{"[]", 0}, impl.AnswersOf, none)
		wantCall(t, "CountAnswers", []any{0, 0}, impl.CountAnswers, none)
	}
	wantCall(t, "CountAnswers", []any{4096, 0}, impl.CountAnswers, system("2 12"))
	wantCall(t, "CountAnswers", []any{531441, 0}, impl.CountAnswers, system("3 12"))
}

// allSystems returns all systems with at most so many equations.
func allSystems(prime, unknowns int64, most int) []impl.System {
	var equations []impl.Equation
	for _, numbers := range listsOf(prime, unknowns+1) {
		equations = append(equations, impl.Equation{Left: numbers[:unknowns:unknowns], Right: numbers[unknowns]})
	}
	all := []impl.System{{Prime: prime, Unknowns: unknowns}}
	last := all
	for range most {
		var longer []impl.System
		for _, s := range last {
			for _, e := range equations {
				longer = append(longer, impl.System{Prime: prime, Unknowns: unknowns, List: append(slices.Clone(s.List), e)})
			}
		}
		all, last = append(all, longer...), longer
	}
	return all
}

func TestReducedFormTellsAnswers(t *testing.T) {
	for _, c := range [][3]int64{{2, 1, 3}, {3, 1, 3}, {2, 2, 3}, {3, 2, 2}, {2, 3, 2}} {
		forms, answers := map[string]string{}, map[string]string{}
		for _, s := range allSystems(c[0], c[1], int(c[2])) {
			reduced, code := impl.ReduceSystem(s)
			same(t, "ReduceSystem", code, impl.OK)
			form, told := shortSystem(reduced), fmt.Sprint(answersBy(s))
			if known, ok := forms[told]; ok {
				same(t, "reduced form of "+shortSystem(s), form, known)
			}
			if known, ok := answers[form]; ok {
				same(t, "answers of "+shortSystem(s), told, known)
			}
			forms[told], answers[form] = form, told
		}
	}
	// equations that are mixed otherwise
	source := rand.New(rand.NewPCG(13, 7))
	eachSystem(13, 200, func(s impl.System) {
		other := mixedSystem(source, s)
		if len(other.List) > impl.MaxEquations {
			return
		}
		form, code := impl.ReduceSystem(s)
		wantCall(t, "ReduceSystem", []any{form, code}, impl.ReduceSystem, other)
	})
}

// mixedSystem returns a system with the same answers: equations are added to
// others, the old ones come as well, and the order is another one.
func mixedSystem(source *rand.Rand, s impl.System) impl.System {
	other := roomySystem(s)
	for i, e := range other.List {
		for j := range other.List {
			for times := source.Int64N(s.Prime); i != j && times > 0; times-- {
				for unknown, number := range e.Left {
					other.List[j].Left[unknown] = (other.List[j].Left[unknown] + number) % s.Prime
				}
				other.List[j].Right = (other.List[j].Right + e.Right) % s.Prime
			}
		}
	}
	other.List = slices.Concat(other.List, roomySystem(s).List)
	source.Shuffle(len(other.List), func(i, j int) { other.List[i], other.List[j] = other.List[j], other.List[i] })
	return other
}
