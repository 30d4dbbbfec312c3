package tests

import (
	"fmt"
	"math"
	"math/rand/v2"
	"slices"
	"testing"

	"loop.example/g01085/impl"
)

// derivationBy returns what DerivationOf has to return, by the definition, for a
// valid system and an equation for it.
func derivationBy(s impl.System, e impl.Equation) ([]int64, int64) {
	if refutationBy(s) != nil {
		return nil, impl.ErrState
	}
	rows, done := rowsBy(s)
	left := append(slices.Clone(e.Left), e.Right)
	numbers := make([]int64, len(s.List))
	for _, row := range rows[:done] {
		begin := slices.Index(row, 1)
		for left[begin] != 0 {
			left = lessRow(s.Prime, left, row[:s.Unknowns+1])
			for i, taken := range row[s.Unknowns+1:] {
				numbers[i] = (numbers[i] + taken) % s.Prime
			}
		}
	}
	if slices.ContainsFunc(left, func(number int64) bool { return number != 0 }) {
		return nil, impl.ErrNotFound
	}
	return numbers, impl.OK
}

// combined returns the sum of the equations of a system, so many times each.
func combined(s impl.System, numbers []int64) impl.Equation {
	sum := impl.Equation{Left: make([]int64, s.Unknowns)}
	for i, e := range s.List {
		for range numbers[i] {
			for unknown, number := range e.Left {
				sum.Left[unknown] = (sum.Left[unknown] + number) % s.Prime
			}
			sum.Right = (sum.Right + e.Right) % s.Prime
		}
	}
	return sum
}

// checkFollowing compares what is said of an equation and a system, which has
// some answers, with the definition, and returns the code of DerivationOf.
func checkFollowing(t *testing.T, s impl.System, answers [][]int64, e impl.Equation) int64 {
	t.Helper()
	fails := func(values []int64) bool { return !holdsBy(s.Prime, e, values) }
	follows := !slices.ContainsFunc(answers, fails)
	numbers, code := derivationBy(s, e)
	wantCall(t, "Follows", []any{follows, 0}, impl.Follows, roomySystem(s), roomyEquation(e))
	results := call(t, impl.DerivationOf, roomySystem(s), roomyEquation(e))
	same(t, fmt.Sprint("DerivationOf of ", shortSystem(s), e), results, []any{numbers, code})
	if follows != (code == impl.OK || code == impl.ErrState) {
		t.Errorf("%v follows from %s: %v, but the code is %d", e, shortSystem(s), follows, code)
	}
	if made := results[0].([]int64); code == impl.OK {
		same(t, fmt.Sprint("numbers of ", shortSystem(s), e), len(made), len(s.List))
		same(t, fmt.Sprint("sum of ", made, " of ", shortSystem(s)), combined(s, made), e)
	}
	return code
}

func TestFollowingByDefinition(t *testing.T) {
	counts := map[int64]int{}
	for _, c := range [][3]int64{{2, 1, 3}, {3, 1, 2}, {2, 2, 2}} {
		for _, s := range allSystems(c[0], c[1], int(c[2])) {
			for _, e := range allSystems(c[0], c[1], 1)[1:] {
				counts[checkFollowing(t, s, answersBy(s), e.List[0])]++
			}
		}
	}
	source := rand.New(rand.NewPCG(21, 7))
	eachSystem(21, 300, func(s impl.System) {
		answers := answersBy(s)
		for range 6 {
			counts[checkFollowing(t, s, answers, randomEquation(source, s.Prime, s.Unknowns, 60))]++
			// what is made of the equations follows, and with another right side it does not
			var numbers []int64
			for range s.List {
				numbers = append(numbers, source.Int64N(s.Prime))
			}
			e := combined(s, numbers)
			counts[checkFollowing(t, s, answers, e)]++
			e.Right = (e.Right + 1) % s.Prime
			counts[checkFollowing(t, s, answers, e)]++
		}
	})
	for _, code := range []int64{impl.OK, impl.ErrState, impl.ErrNotFound} {
		if counts[code] < 1000 {
			t.Errorf("too few equations: %v", counts)
		}
	}
}

func TestFollowingInTheLargestSystems(t *testing.T) {
	source := rand.New(rand.NewPCG(22, 7))
	counts := map[int64]int{}
	for i := range 200 {
		prime := 2 + int64(i)%2
		s := randomSystem(source, prime, 12, 24, 100)
		if i%4 > 1 {
			// 24 equations that are made of 7, for which there are answers
			few := randomSystem(source, prime, 12, 7, 100)
			for j := range s.List {
				numbers := make([]int64, 7)
				for k := range numbers {
					numbers[k] = source.Int64N(prime)
				}
				s.List[j] = combined(few, numbers)
			}
		}
		for _, e := range []impl.Equation{s.List[source.IntN(24)], randomEquation(source, prime, 12, 100), combined(s, slices.Repeat([]int64{1}, 24))} {
			numbers, code := derivationBy(s, e)
			counts[code]++
			wantCall(t, "DerivationOf", []any{numbers, code}, impl.DerivationOf, roomySystem(s), roomyEquation(e))
			wantCall(t, "Follows", []any{code != impl.ErrNotFound, 0}, impl.Follows, s, e)
			if code == impl.OK {
				same(t, "sum", combined(s, numbers), e)
			}
		}
	}
	for _, code := range []int64{impl.OK, impl.ErrState, impl.ErrNotFound} {
		if counts[code] < 50 {
			t.Errorf("too few equations: %v", counts)
		}
	}
}

func TestKnownDerivations(t *testing.T) {
	for _, c := range []struct{ s, e, want string }{
		{"2 3 110=1 011=1", "101=0", "[1 1]"}, {"2 3 110=1 011=1", "110=1", "[1 0]"}, {"2 3 110=1 011=1", "011=1", "[0 1]"}, {"2 3 110=1 011=1", "000=0", "[0 0]"},
		// modulo 3 what is taken away has another sign
		{"3 1 1=1", "2=2", "[2]"}, {"3 1 2=1", "1=2", "[2]"}, {"3 1 2=1", "2=1", "[1]"}, {"3 2 12=1 01=2", "10=0", "[1 1]"}, {"3 2 11=1 12=0", "10=2", "[2 2]"}, {"3 2 11=1 12=0", "01=2", "[2 1]"}, {"3 2 11=1 12=0", "21=0", "[0 2]"},
		// it is made of the equations that tell the unknowns, even if it is one of them
		{"2 2 10=1 01=0 11=1", "11=1", "[1 1 0]"}, {"3 3 120=1 012=2 201=0", "201=0", "[2 2 0]"}, {"2 1 1=1 1=1", "1=1", "[1 0]"}, {"3 1 0=0 2=1 1=2", "1=2", "[0 2 0]"},
		// equations that have changed places
		{"2 2 01=1 10=0", "10=0", "[0 1]"}, {"2 2 01=1 10=0", "01=1", "[1 0]"}, {"2 3 001=1 010=1 111=0", "100=0", "[1 1 1]"}, {"3 2 02=1 21=1", "10=1", "[2 2]"},
		// 0 = 0 follows from all, also if there are no equations
		{"2 1", "0=0", "[]"}, {"3 12", "000000000000=0", "[]"}, {"2 2 00=0 00=0", "00=0", "[0 0]"}, {"3 1 2=2", "0=0", "[0]"},
	} {
		s, e := system(c.s), equation(c.e)
		wantCall(t, "DerivationOf", []any{c.want, 0}, impl.DerivationOf, s, e)
		wantCall(t, "Follows", []any{true, 0}, impl.Follows, s, e)
		numbers, _ := impl.DerivationOf(s, e)
		same(t, "sum", combined(s, numbers), e)
	}
	for _, c := range [][2]string{
		{"2 1", "1=0"}, {"2 1", "0=1"}, {"3 1 0=0", "0=2"}, {"2 3 110=1 011=1", "101=1"}, {"2 3 110=1 011=1", "000=1"}, {"2 3 110=1 011=1", "100=0"}, {"2 3 110=1 011=1", "001=1"}, {"3 1 1=1", "1=2"}, {"3 1 1=1", "2=1"}, {"3 2 11=1", "12=1"}, {"3 2 11=1", "22=1"}, {"2 2 11=1", "10=1"},
	} {
		wantCall(t, "Follows", []any{false, 0}, impl.Follows, system(c[0]), equation(c[1]))
		wantCall(t, "DerivationOf", []any{"[]", impl.ErrNotFound}, impl.DerivationOf, system(c[0]), equation(c[1]))
	}
	// from a system without answers each equation follows
	for _, c := range [][2]string{{"2 1 0=1", "1=0"}, {"2 1 0=1", "0=1"}, {"2 1 0=1", "0=0"}, {"2 1 1=0 1=1", "1=1"}, {"3 2 11=0 11=1", "10=2"}, {"3 2 00=2", "00=2"}, {"2 3 110=1 011=1 101=1", "110=1"}} {
		wantCall(t, "Follows", []any{true, 0}, impl.Follows, system(c[0]), equation(c[1]))
		wantCall(t, "DerivationOf", []any{"[]", impl.ErrState}, impl.DerivationOf, system(c[0]), equation(c[1]))
	}
}

// notEquations are equations that are none for 2 unknowns modulo a prime.
func notEquations(prime int64) []impl.Equation {
	list := []impl.Equation{{}, {Left: []int64{}}, {Left: []int64{0}}, {Left: []int64{1}}, {Left: []int64{0, 0, 0}}, {Left: []int64{1, 0, 0}, Right: 1}, {Right: 1}, {Left: make([]int64, 12)}, {Left: make([]int64, 13)}}
	for _, number := range append([]int64{prime, -prime, 4}, farAway...) {
		list = append(list, impl.Equation{Left: []int64{number, 0}}, impl.Equation{Left: []int64{1, number}, Right: 1}, impl.Equation{Left: []int64{0, 0}, Right: number}, impl.Equation{Left: []int64{1, 1}, Right: number})
	}
	return list
}

func TestEquationsThatAreNone(t *testing.T) {
	for _, prime := range []int64{2, 3} {
		for _, e := range notEquations(prime) {
			// ErrRange comes ahead of ErrState and ErrNotFound
			for _, short := range []string{" 2", " 2 11=1", " 2 10=1 01=1", " 2 00=1", " 2 10=0 10=1"} {
				s := system(fmt.Sprint(prime) + short)
				wantCode(t, "Follows", impl.ErrRange, impl.Follows, s, e)
				wantCode(t, "DerivationOf", impl.ErrRange, impl.DerivationOf, s, e)
			}
			// ErrInvalid comes ahead of ErrRange
			for _, s := range badSystems() {
				wantCode(t, "Follows", impl.ErrInvalid, impl.Follows, s, e)
				wantCode(t, "DerivationOf", impl.ErrInvalid, impl.DerivationOf, s, e)
			}
		}
	}
	// what is an equation hangs on the system
	wantCode(t, "Follows", impl.ErrRange, impl.Follows, system("2 2"), equation("20=0"))
	wantCode(t, "Follows", impl.OK, impl.Follows, system("3 2"), equation("20=0"))
	wantCode(t, "DerivationOf", impl.ErrRange, impl.DerivationOf, system("2 1"), equation("00=0"))
	wantCode(t, "DerivationOf", impl.OK, impl.DerivationOf, system("2 2"), equation("00=0"))
}

// checkOneOfBoth checks that a system has an answer or a refutation, and not
// both, and reports whether it has an answer.
func checkOneOfBoth(t *testing.T, s impl.System) bool {
	t.Helper()
	values, solved := impl.SolveSystem(s)
	numbers, refuted := impl.RefuteSystem(s)
	count, _ := impl.CountAnswers(s)
	_, ranked := impl.RankOfSystem(s)
	follows, _ := impl.Follows(s, impl.Equation{Left: make([]int64, s.Unknowns), Right: 1})
	if solved == impl.OK {
		holds, code := impl.HoldsIn(s, values)
		same(t, "answer of "+shortSystem(s), []any{holds, code}, []any{true, 0})
		same(t, "codes and count of "+shortSystem(s), []any{refuted, ranked, count > 0, follows}, []any{impl.ErrNotFound, impl.OK, true, false})
		return true
	}
	isRefutation, code := impl.IsRefutation(s, numbers)
	same(t, "refutation of "+shortSystem(s), []any{isRefutation, code}, []any{true, 0})
	same(t, "codes and count of "+shortSystem(s), []any{solved, refuted, ranked, count, follows}, []any{impl.ErrNotFound, impl.OK, impl.ErrState, 0, true})
	return false
}

func TestAnswerOrRefutation(t *testing.T) {
	counts := map[bool]int{}
	for _, c := range [][3]int64{{2, 1, 4}, {3, 1, 3}, {2, 2, 3}, {3, 2, 2}} {
		for _, s := range allSystems(c[0], c[1], int(c[2])) {
			isSolved := checkOneOfBoth(t, s)
			counts[isSolved]++
			some := false
			for _, by := range listsOf(s.Prime, int64(len(s.List))) {
				isRefutation, _ := impl.IsRefutation(s, by)
				some = some || isRefutation
			}
			// a refutation of a system with answers, or none of one without them, would be wrong
			same(t, "some refutation of "+shortSystem(s), some, !isSolved)
			same(t, "some answer of "+shortSystem(s), isSolved, len(answersBy(s)) > 0)
		}
	}
	source := rand.New(rand.NewPCG(23, 7))
	for i := range 3000 {
		s := randomSystem(source, 2+int64(i)%2, 1+source.Int64N(12), source.IntN(25), 10+source.IntN(91))
		counts[checkOneOfBoth(t, s)]++
	}
	if counts[true] < 1000 || counts[false] < 1000 {
		t.Errorf("too few systems: %v", counts)
	}
	// the least and the most that there can be
	for _, s := range goodSystems() {
		checkOneOfBoth(t, s)
	}
	same(t, "an answer", checkOneOfBoth(t, unitSystem(3, 12, 12)), true)
	same(t, "an answer", checkOneOfBoth(t, system("3 12"+repeated(" 000000000000=0", 23)+" 000000000000=1")), false)
}

func TestRefutationsAreDivided(t *testing.T) {
	for _, c := range []struct{ s, want string }{
		// the equations make 0 = 1, or 0 = 2, which is divided by 2
		{"3 1 0=1", "[1]"}, {"3 1 0=2", "[2]"}, {"3 2 12=0 12=1", "[2 1]"}, {"3 2 12=0 12=2", "[1 2]"}, {"3 2 12=1 21=1", "[2 2]"}, {"3 2 12=1 21=0", "[1 1]"}, {"3 3 110=1 011=1 121=0", "[2 2 1]"}, {"3 3 110=1 011=1 121=1", "[1 1 2]"},
	} {
		s := system(c.s)
		wantCall(t, "RefuteSystem", []any{c.want, 0}, impl.RefuteSystem, s)
		numbers, _ := impl.RefuteSystem(s)
		same(t, "sum", combined(s, numbers), impl.Equation{Left: make([]int64, s.Unknowns), Right: 1})
		// twice of it is one as well, though not the one that is returned
		for i := range numbers {
			numbers[i] = 2 * numbers[i] % 3
		}
		wantCall(t, "IsRefutation", []any{true, 0}, impl.IsRefutation, s, numbers)
		wantCall(t, "IsRefutation", []any{false, 0}, impl.IsRefutation, s, append(numbers, 0))
		wantCall(t, "IsRefutation", []any{false, 0}, impl.IsRefutation, s, numbers[1:])
		numbers[0] += 3
		wantCall(t, "IsRefutation", []any{false, 0}, impl.IsRefutation, s, numbers)
		numbers[0] = math.MinInt64
		wantCall(t, "IsRefutation", []any{false, 0}, impl.IsRefutation, s, numbers)
	}
}
