package tests

import (
	"fmt"
	"math"
	"math/rand/v2"
	"slices"
	"strings"
	"testing"

	"loop.example/g01085/impl"
)

// noPrimes are numbers modulo which is not calculated.
var noPrimes = []int64{0, 1, 4, 5, 6, 7, 1000, -1, -2, -3, math.MaxInt64, math.MinInt64}

// system returns the system that a short text tells, such as "2 3 110=1 011=0".
func system(short string) impl.System {
	words := strings.Fields(short)
	var s impl.System
	fmt.Sscan(words[0]+" "+words[1], &s.Prime, &s.Unknowns)
	for _, word := range words[2:] {
		s.List = append(s.List, equation(word))
	}
	return s
}

// equation returns the equation that a short text tells, such as "110=1".
func equation(short string) impl.Equation {
	left, right, _ := strings.Cut(short, "=")
	e := impl.Equation{Right: int64(right[0] - '0')}
	for _, digit := range left {
		e.Left = append(e.Left, int64(digit-'0'))
	}
	return e
}

// shortSystem writes a system down, such that system tells it again.
func shortSystem(s impl.System) string {
	text := fmt.Sprint(s.Prime, " ", s.Unknowns)
	for _, e := range s.List {
		text += " " + strings.Trim(strings.ReplaceAll(fmt.Sprint(e.Left), " ", ""), "[]") + fmt.Sprint("=", e.Right)
	}
	return text
}

// roomySystem returns the same system in slices that have capacity left.
func roomySystem(s impl.System) impl.System {
	list := make([]impl.Equation, 0, len(s.List)+2)
	for _, e := range s.List {
		list = append(list, roomyEquation(e))
	}
	copy(list[len(list):cap(list)], []impl.Equation{{Left: []int64{9}, Right: 9}, {Right: 8}})
	return impl.System{Prime: s.Prime, Unknowns: s.Unknowns, List: list}
}

// roomyEquation returns the same equation with capacity left.
func roomyEquation(e impl.Equation) impl.Equation {
	return impl.Equation{Left: roomyList(e.Left...), Right: e.Right}
}

// holdsBy tells by the definition whether values make an equation true.
func holdsBy(prime int64, e impl.Equation, values []int64) bool {
	sum := int64(0)
	for i, number := range e.Left {
		sum += number * values[i]
	}
	return sum%prime == e.Right
}

// answersBy returns all answers of a system, by the definition.
func answersBy(s impl.System) [][]int64 {
	var list [][]int64
	for _, values := range listsOf(s.Prime, s.Unknowns) {
		if !slices.ContainsFunc(s.List, func(e impl.Equation) bool { return !holdsBy(s.Prime, e, values) }) {
			list = append(list, values)
		}
	}
	return list
}

// lessRow takes one row away from another one, once.
func lessRow(prime int64, row, other []int64) []int64 {
	difference := slices.Clone(row)
	for i, number := range other {
		difference[i] = (difference[i] + prime - number) % prime
	}
	return difference
}

// rowsBy brings a system into the reduced form, by the definition. A row has the
// left side, the right side, and how often each equation has been taken; the
// rows that are done are counted.
func rowsBy(s impl.System) ([][]int64, int) {
	var rows [][]int64
	for i, e := range s.List {
		taken := make([]int64, len(s.List))
		taken[i] = 1
		rows = append(rows, slices.Concat(e.Left, []int64{e.Right}, taken))
	}
	done := 0
	for unknown := range s.Unknowns {
		first := done
		for first < len(rows) && rows[first][unknown] == 0 {
			first++
		}
		if first == len(rows) {
			continue
		}
		rows[done], rows[first] = rows[first], rows[done]
		for whole := rows[done]; rows[done][unknown] != 1; {
			rows[done] = lessRow(s.Prime, rows[done], whole)
		}
		for i := range rows {
			for i != done && rows[i][unknown] != 0 {
				rows[i] = lessRow(s.Prime, rows[i], rows[done])
			}
		}
		done++
	}
	return rows, done
}

// reducedBy returns the reduced form of a system, by the definition.
func reducedBy(s impl.System) impl.System {
	rows, done := rowsBy(s)
	reduced := impl.System{Prime: s.Prime, Unknowns: s.Unknowns}
	for i, row := range rows {
		e := impl.Equation{Left: row[:s.Unknowns], Right: row[s.Unknowns]}
		if i >= done && e.Right != 0 {
			reduced.List = []impl.Equation{{Left: make([]int64, s.Unknowns), Right: 1}}
			return reduced
		}
		if i < done {
			reduced.List = append(reduced.List, e)
		}
	}
	return reduced
}

// refutationBy returns the refutation that RefuteSystem has to return, by the
// definition; none if there are answers.
func refutationBy(s impl.System) []int64 {
	rows, done := rowsBy(s)
	for _, row := range rows[done:] {
		if row[s.Unknowns] == 0 {
			continue
		}
		for whole := row; row[s.Unknowns] != 1; {
			row = lessRow(s.Prime, row, whole)
		}
		return row[s.Unknowns+1:]
	}
	return nil
}

// isRefutationBy tells by the definition whether numbers are a refutation.
func isRefutationBy(s impl.System, by []int64) bool {
	if len(by) != len(s.List) {
		return false
	}
	sum := make([]int64, s.Unknowns+1)
	for i, times := range by {
		if times < 0 || times >= s.Prime {
			return false
		}
		for range times {
			for at, number := range append(slices.Clone(s.List[i].Left), s.List[i].Right) {
				sum[at] += number
			}
		}
	}
	for at := range sum {
		if sum[at]%s.Prime != 0 {
			return at == int(s.Unknowns)
		}
	}
	return false
}

// randomEquation returns an equation about so many percent of whose numbers can be
// other ones than 0.
func randomEquation(source *rand.Rand, prime, unknowns int64, percent int) impl.Equation {
	e := impl.Equation{Right: source.Int64N(prime)}
	for range unknowns {
		number := source.Int64N(prime)
		if source.IntN(100) >= percent {
			number = 0
		}
		e.Left = append(e.Left, number)
	}
	return e
}

// randomSystem returns a system with so many equations.
func randomSystem(source *rand.Rand, prime, unknowns int64, count, percent int) impl.System {
	s := impl.System{Prime: prime, Unknowns: unknowns}
	for range count {
		s.List = append(s.List, randomEquation(source, prime, unknowns, percent))
	}
	return s
}

// eachSystem runs a check for many systems.
func eachSystem(seed uint64, count int, check func(s impl.System)) {
	source := rand.New(rand.NewPCG(seed, 7))
	for i := range count {
		check(randomSystem(source, 2+int64(i)%2, 1+source.Int64N(5), source.IntN(8), 30+source.IntN(70)))
	}
}

// checkSystem compares what is said of a system with the definition, and reports
// whether it has answers.
func checkSystem(t *testing.T, s impl.System) bool {
	t.Helper()
	reduced := reducedBy(s)
	wantCall(t, "ValidSystem", []any{true}, impl.ValidSystem, roomySystem(s))
	wantCall(t, "ReduceSystem", []any{reduced, 0}, impl.ReduceSystem, roomySystem(s))
	wantCall(t, "ReduceSystem of the reduced form", []any{reduced, 0}, impl.ReduceSystem, reduced)
	if by := refutationBy(s); by != nil {
		wantCode(t, "SolveSystem", impl.ErrNotFound, impl.SolveSystem, roomySystem(s))
		wantCall(t, "RefuteSystem", []any{by, 0}, impl.RefuteSystem, roomySystem(s))
		wantCall(t, "IsRefutation", []any{true, 0}, impl.IsRefutation, roomySystem(s), roomyList(by...))
		return false
	}
	values := make([]int64, s.Unknowns)
	for _, e := range reduced.List {
		values[slices.Index(e.Left, 1)] = e.Right
	}
	wantCall(t, "SolveSystem", []any{values, 0}, impl.SolveSystem, roomySystem(s))
	wantCode(t, "RefuteSystem", impl.ErrNotFound, impl.RefuteSystem, roomySystem(s))
	return true
}

func TestSystemsByDefinition(t *testing.T) {
	counts := map[bool]int{}
	eachSystem(1, 400, func(s impl.System) {
		answers := answersBy(s)
		isSolved := checkSystem(t, s)
		counts[isSolved]++
		same(t, "a system with answers: "+shortSystem(s), isSolved, len(answers) > 0)
		same(t, "answers of the reduced form of "+shortSystem(s), answersBy(reducedBy(s)), answers)
		if isSolved {
			values, _ := impl.SolveSystem(s)
			isIt := func(answer []int64) bool { return slices.Equal(answer, values) }
			same(t, "SolveSystem has an answer of "+shortSystem(s), slices.ContainsFunc(answers, isIt), true)
		}
	})
	if counts[true] < 100 || counts[false] < 100 {
		t.Errorf("too few systems: %v", counts)
	}
}

func TestRefutationsByDefinition(t *testing.T) {
	eachSystem(2, 80, func(s impl.System) {
		s.List = s.List[:min(len(s.List), 4)]
		some := false
		for _, by := range listsOf(s.Prime, int64(len(s.List))) {
			some = some || isRefutationBy(s, by)
			wantCall(t, "IsRefutation", []any{isRefutationBy(s, by), 0}, impl.IsRefutation, roomySystem(s), roomyList(by...))
		}
		same(t, "a system with a refutation: "+shortSystem(s), some, len(answersBy(s)) == 0)
	})
	s := system("3 2 11=1 22=1 00=0")
	for _, c := range []struct {
		by   []int64
		want bool
	}{
		{[]int64{1, 1, 0}, true}, {[]int64{2, 2, 1}, true}, {[]int64{1, 1, 2}, true},
		{[]int64{1, 2, 0}, false}, {[]int64{0, 0, 0}, false}, {[]int64{0, 0, 1}, false}, {[]int64{1, 0, 0}, false},
		// not as many numbers as equations
		{nil, false}, {[]int64{}, false}, {[]int64{1}, false}, {[]int64{1, 1}, false}, {[]int64{1, 1, 0, 0}, false}, {[]int64{1, 1, 0, 1}, false},
		// numbers that are none modulo the prime
		{[]int64{4, 1, 0}, false}, {[]int64{1, 4, 0}, false}, {[]int64{1, -2, 0}, false}, {[]int64{1, 1, 3}, false}, {[]int64{1, 1, -3}, false}, {[]int64{1, 1, math.MaxInt64}, false}, {[]int64{1, 1, math.MinInt64}, false},
	} {
		wantCall(t, "IsRefutation", []any{c.want, 0}, impl.IsRefutation, s, c.by)
	}
	// without equations there is nothing to be refuted
	wantCall(t, "IsRefutation", []any{false, 0}, impl.IsRefutation, system("2 3"), nil)
	wantCall(t, "IsRefutation", []any{false, 0}, impl.IsRefutation, system("2 3"), []int64{1})
}

func TestExampleOfEquations(t *testing.T) {
	three, two := system("2 3 110=1 011=1 101=1"), system("2 3 110=1 011=1")
	wantCall(t, "AnswersOf", []any{"[]", 0}, impl.AnswersOf, three)
	wantCall(t, "CountAnswers", []any{0, 0}, impl.CountAnswers, three)
	wantCode(t, "SolveSystem", impl.ErrNotFound, impl.SolveSystem, three)
	wantCall(t, "RefuteSystem", []any{"[1 1 1]", 0}, impl.RefuteSystem, three)
	wantCall(t, "IsRefutation", []any{true, 0}, impl.IsRefutation, three, []int64{1, 1, 1})
	wantCall(t, "ReduceSystem", []any{system("2 3 101=0 011=1"), 0}, impl.ReduceSystem, two)
	wantCall(t, "AnswersOf", []any{"[[0 1 0] [1 0 1]]", 0}, impl.AnswersOf, two)
	r := impl.Rel{Arity: 2, Tuples: [][]int64{{0, 1}, {1, 0}}}
	wantCall(t, "IsAffine", []any{true, 0}, impl.IsAffine, 2, r)
	wantCall(t, "EquationsOf", []any{system("2 2 11=1"), 0}, impl.EquationsOf, 2, r)
	wantCall(t, "RelOfSystem", []any{r, 0}, impl.RelOfSystem, system("2 2 11=1"))
	same(t, "limits", []int64{impl.MaxUnknowns, impl.MaxEquations, impl.MaxAnswers}, []int64{12, 24, 500})
}

func TestKnownSystems(t *testing.T) {
	for _, c := range []struct{ s, reduced, solved, refuted string }{
		// the example of chapter 7
		{"2 3 110=1 011=1 101=1", "2 3 000=1", "", "[1 1 1]"}, {"2 3 110=1 011=1", "2 3 101=0 011=1", "[0 1 0]", ""},
		{"2 1", "2 1", "[0]", ""}, {"3 12", "3 12", "[0 0 0 0 0 0 0 0 0 0 0 0]", ""},
		{"2 2 00=0", "2 2", "[0 0]", ""}, {"2 2 00=1", "2 2 00=1", "", "[1]"}, {"3 2 00=0 00=2", "3 2 00=1", "", "[0 2]"},
		{"3 1 2=1", "3 1 1=2", "[2]", ""}, {"3 2 02=1 20=1", "3 2 10=2 01=2", "[2 2]", ""},
		// equations that come twice, numbers other than 1, and unknowns that no equation has
		{"2 2 11=1 11=1", "2 2 11=1", "[1 0]", ""}, {"3 2 21=2 21=2 12=1", "3 2 12=1", "[1 0]", ""}, {"3 3 020=1 020=1", "3 3 010=2", "[0 2 0]", ""}, {"3 3 202=0 101=1", "3 3 000=1", "", "[1 1]"},
		// an equation that is done has the unknown, but only those behind are looked at
		{"2 3 110=1 111=0", "2 3 110=1 001=1", "[1 0 1]", ""}, {"2 3 110=1 111=0 010=1", "2 3 100=0 010=1 001=1", "[0 1 1]", ""}, {"3 3 120=1 122=2 010=0", "3 3 100=1 010=0 001=2", "[1 0 2]", ""},
		// the first equation with the unknown changes places, which tells the one that is met first
		{"2 2 01=0 11=0 00=1 11=1", "2 2 00=1", "", "[0 0 1 0]"}, {"2 2 00=1 01=0 11=0 11=1", "2 2 00=1", "", "[1 0 0 0]"}, {"2 2 00=1 01=0 01=1 11=0", "2 2 00=1", "", "[0 1 1 0]"},
		{"3 2 11=0 11=1 11=2", "3 2 00=1", "", "[2 1 0]"}, {"3 2 11=0 11=2 11=1", "3 2 00=1", "", "[1 2 0]"}, {"3 2 22=0 11=1", "3 2 00=1", "", "[1 1]"},
		{"3 3 120=1 012=2 201=0", "3 3 102=0 012=2", "[0 2 0]", ""}, {"3 3 120=1 012=2 201=1", "3 3 000=1", "", "[1 1 1]"},
		// unknowns that no equation begins with are 0
		{"2 4 0110=1 0101=1", "2 4 0101=1 0011=0", "[0 1 0 0]", ""}, {"3 4 0012=2", "3 4 0012=2", "[0 0 2 0]", ""}, {"3 4 0021=2", "3 4 0012=1", "[0 0 1 0]", ""},
	} {
		s := system(c.s)
		checkSystem(t, s)
		wantCall(t, "ReduceSystem", []any{system(c.reduced), 0}, impl.ReduceSystem, s)
		if c.refuted == "" {
			wantCall(t, "SolveSystem", []any{c.solved, 0}, impl.SolveSystem, s)
		} else {
			wantCall(t, "RefuteSystem", []any{c.refuted, 0}, impl.RefuteSystem, s)
		}
	}
}

func TestLargestSystems(t *testing.T) {
	source := rand.New(rand.NewPCG(3, 7))
	for _, prime := range []int64{2, 3} {
		for range 10 {
			s := randomSystem(source, prime, 12, 24, 100)
			checkSystem(t, s)
			// with the right sides of one answer
			answer := make([]int64, 12)
			for i := range answer {
				answer[i] = source.Int64N(prime)
			}
			for i := range s.List {
				for s.List[i].Right = 0; !holdsBy(prime, s.List[i], answer); s.List[i].Right++ {
				}
			}
			same(t, "a system with an answer", checkSystem(t, s), true)
		}
	}
}

// badSystems are systems that are not valid.
func badSystems() []impl.System {
	list := []impl.System{{}, {Prime: 2}, {Prime: 2, Unknowns: 13}, {Prime: 3, Unknowns: -1}, {Prime: 2, Unknowns: 2, List: []impl.Equation{{}}}, {Prime: 2, List: []impl.Equation{{}}}}
	for _, prime := range noPrimes {
		list = append(list, impl.System{Prime: prime, Unknowns: 2}, impl.System{Prime: prime, Unknowns: 2, List: []impl.Equation{{Left: []int64{0, 0}}}})
	}
	for _, number := range append([]int64{2, 3}, farAway...) {
		list = append(list, impl.System{Prime: 2, Unknowns: 1, List: []impl.Equation{{Left: []int64{number}}}}, impl.System{Prime: 2, Unknowns: 2, List: []impl.Equation{{Left: []int64{1, 0}}, {Left: []int64{0, number}}}})
		list = append(list, impl.System{Prime: 2, Unknowns: 1, List: []impl.Equation{{Left: []int64{1}, Right: number}}}, impl.System{Prime: 2, Unknowns: 10 + number, List: []impl.Equation{{Left: []int64{1}}}})
	}
	for _, short := range []string{"3 1 3=0", "3 1 1=3", "2 2 1=0", "2 2 111=0", "2 2 11=0 1=0", "2 12 1111111111111=0", "2 1" + repeated(" 1=0", 25), "3 1" + repeated(" 0=0", 100)} {
		list = append(list, system(short))
	}
	return list
}

func TestSystemsThatAreNotValid(t *testing.T) {
	for _, s := range badSystems() {
		wantCall(t, "ValidSystem", []any{false}, impl.ValidSystem, s)
		wantCode(t, "ReduceSystem", impl.ErrInvalid, impl.ReduceSystem, s)
		wantCode(t, "SolveSystem", impl.ErrInvalid, impl.SolveSystem, s)
		wantCode(t, "RefuteSystem", impl.ErrInvalid, impl.RefuteSystem, s)
		wantCode(t, "RankOfSystem", impl.ErrInvalid, impl.RankOfSystem, s)
		wantCode(t, "CountAnswers", impl.ErrInvalid, impl.CountAnswers, s)
		wantCode(t, "AnswersOf", impl.ErrInvalid, impl.AnswersOf, s)
		wantCode(t, "RelOfSystem", impl.ErrInvalid, impl.RelOfSystem, s)
		wantCall(t, "SystemText", []any{""}, impl.SystemText, s)
		for _, list := range [][]int64{nil, {0}, {1}, {1, 1}, {-1}, {9, 9, 9}} {
			wantCode(t, "IsRefutation", impl.ErrInvalid, impl.IsRefutation, s, list)
			wantCode(t, "HoldsIn", impl.ErrInvalid, impl.HoldsIn, s, list)
			for _, right := range []int64{0, 1, -1} {
				wantCode(t, "Follows", impl.ErrInvalid, impl.Follows, s, impl.Equation{Left: list, Right: right})
				wantCode(t, "DerivationOf", impl.ErrInvalid, impl.DerivationOf, s, impl.Equation{Left: list, Right: right})
			}
		}
	}
	for _, short := range []string{"2 1", "3 12", "2 1" + repeated(" 1=0", 24), "3 12 222222222222=2"} {
		wantCall(t, "ValidSystem", []any{true}, impl.ValidSystem, system(short))
	}
}

func TestAffineOp(t *testing.T) {
	wantCall(t, "AffineOp", []any{"{3 [0 1 1 0 1 0 0 1]}", 0}, impl.AffineOp, 2)
	wantCall(t, "AffineOp", []any{"{3 [0 1 2 2 0 1 1 2 0 1 2 0 0 1 2 2 0 1 2 0 1 1 2 0 0 1 2]}", 0}, impl.AffineOp, 3)
	for _, prime := range noPrimes {
		wantCode(t, "AffineOp", impl.ErrRange, impl.AffineOp, prime)
	}
}

// affine returns the operation x - y + z.
func affine(prime int64) impl.Op {
	return opWhere(prime, 3, func(x []int64) int64 { return (x[0] - x[1] + x[2] + prime) % prime })
}

// isAffineBy tells by the definition whether a relation is affine.
func isAffineBy(prime int64, r impl.Rel) bool {
	broken, _ := breaksBy(prime, affine(prime), r)
	return len(r.Tuples) > 0 && broken == nil
}

// equationsBy returns the equations of an affine relation, by the definition.
func equationsBy(prime int64, r impl.Rel) impl.System {
	all := impl.System{Prime: prime, Unknowns: r.Arity}
	for _, numbers := range listsOf(prime, r.Arity+1) {
		e := impl.Equation{Left: numbers[:r.Arity], Right: numbers[r.Arity]}
		if !slices.ContainsFunc(r.Tuples, func(tuple []int64) bool { return !holdsBy(prime, e, tuple) }) {
			all.List = append(all.List, e)
		}
	}
	return reducedBy(all)
}

// checkEquations compares what is said of the equations of a relation with the
// definition, and reports whether it is affine.
func checkEquations(t *testing.T, prime int64, r impl.Rel) bool {
	t.Helper()
	isAffine := isAffineBy(prime, r)
	wantCall(t, "IsAffine", []any{isAffine, 0}, impl.IsAffine, prime, roomy(r))
	if !isAffine {
		wantCode(t, "EquationsOf", impl.ErrState, impl.EquationsOf, prime, roomy(r))
		return false
	}
	want := equationsBy(prime, r)
	wantCall(t, "EquationsOf", []any{want, 0}, impl.EquationsOf, prime, roomy(r))
	wantCall(t, "ReduceSystem of equations", []any{want, 0}, impl.ReduceSystem, want)
	same(t, "answers of the equations of "+fmt.Sprint(r), answersBy(want), r.Tuples)
	return true
}

func TestEquationsOfRelations(t *testing.T) {
	count := 0
	for _, c := range [][2]int64{{2, 1}, {2, 2}, {2, 3}, {3, 1}, {3, 2}} {
		for _, r := range allRels(c[0], c[1]) {
			if checkEquations(t, c[0], r) {
				count++
			}
		}
	}
	// affine relations of all dimensions: 3 + 11 + 51 of the size 2, 4 + 22 of the size 3
	same(t, "affine relations", count, 3+11+51+4+22)
	source := rand.New(rand.NewPCG(4, 7))
	for i := range 60 {
		prime, arity := 2+int64(i)%2, 3+source.Int64N(2)
		s := randomSystem(source, prime, arity, 1+source.IntN(4), 100)
		r := impl.Rel{Arity: arity, Tuples: answersBy(s)}
		same(t, "affine", checkEquations(t, prime, r), len(r.Tuples) > 0)
		if len(r.Tuples) > 2 {
			r.Tuples = slices.Delete(r.Tuples, 1, 2)
			checkEquations(t, prime, r)
		}
	}
}

func TestKnownEquations(t *testing.T) {
	for _, c := range []struct {
		prime int64
		rel   string
		want  string
	}{
		{2, "rel 2 01 10", "2 2 11=1"}, {2, "rel 1 1", "2 1 1=1"}, {2, "rel 1 0 1", "2 1"}, {2, "rel 4 0110", "2 4 1000=0 0100=1 0010=1 0001=0"},
		{2, "rel 3 010 101", "2 3 101=0 011=1"}, {3, "rel 1 2", "3 1 1=2"}, {3, "rel 1 0 1 2", "3 1"}, {3, "rel 2 00 11 22", "3 2 12=0"}, {3, "rel 2 01 12 20", "3 2 12=2"},
		{3, "rel 2 00 12 21", "3 2 11=0"}, {3, "rel 3 012", "3 3 100=0 010=1 001=2"},
	} {
		r, code := impl.ReadRel(c.rel)
		same(t, "ReadRel", code, impl.OK)
		wantCall(t, "EquationsOf", []any{system(c.want), 0}, impl.EquationsOf, c.prime, r)
		checkEquations(t, c.prime, r)
	}
	// all tuples, and those of one equation
	for _, prime := range []int64{2, 3} {
		for arity := int64(1); arity <= 4; arity++ {
			full := impl.Rel{Arity: arity, Tuples: listsOf(prime, arity)}
			wantCall(t, "IsAffine", []any{true, 0}, impl.IsAffine, prime, full)
			wantCall(t, "EquationsOf", []any{impl.System{Prime: prime, Unknowns: arity}, 0}, impl.EquationsOf, prime, full)
			wantCall(t, "IsAffine", []any{false, 0}, impl.IsAffine, prime, impl.Rel{Arity: arity})
			wantCode(t, "EquationsOf", impl.ErrState, impl.EquationsOf, prime, impl.Rel{Arity: arity})
		}
	}
}

func TestErrorsOfAffineRelations(t *testing.T) {
	for _, prime := range noPrimes {
		for _, r := range append(badRels(), impl.Rel{Arity: 1, Tuples: [][]int64{{0}}}, impl.Rel{Arity: 2}) {
			// the prime comes ahead of the relation
			wantCode(t, "IsAffine", impl.ErrRange, impl.IsAffine, prime, r)
			wantCode(t, "EquationsOf", impl.ErrRange, impl.EquationsOf, prime, r)
		}
	}
	for _, r := range badRels() {
		wantCode(t, "IsAffine", impl.ErrInvalid, impl.IsAffine, 2, r)
		wantCode(t, "EquationsOf", impl.ErrInvalid, impl.EquationsOf, 2, r)
	}
	// validity hangs on the prime
	r := impl.Rel{Arity: 1, Tuples: [][]int64{{2}}}
	wantCode(t, "EquationsOf", impl.ErrInvalid, impl.EquationsOf, 2, r)
	wantCode(t, "EquationsOf", impl.OK, impl.EquationsOf, 3, r)
	wantCode(t, "IsAffine", impl.ErrInvalid, impl.IsAffine, 3, impl.Rel{Arity: 1, Tuples: [][]int64{{3}}})
}

func TestLargeArgumentsOfEquations(t *testing.T) {
	long := make([]int64, 900000)
	same(t, "ValidSystem", impl.ValidSystem(impl.System{Prime: 2, Unknowns: 12, List: make([]impl.Equation, 300000)}), false)
	same(t, "ValidSystem", impl.ValidSystem(impl.System{Prime: 2, Unknowns: 900000, List: []impl.Equation{{Left: long}}}), false)
	same(t, "ValidSystem", impl.ValidSystem(impl.System{Prime: 2, Unknowns: 3, List: []impl.Equation{{Left: long}}}), false)
	is, code := impl.IsRefutation(system("2 1 1=0 1=1"), long)
	same(t, "IsRefutation", []any{is, code}, "[false 0]")
	_, code = impl.EquationsOf(2, impl.Rel{Arity: 1, Tuples: slices.Repeat([][]int64{{0}}, 300000)})
	same(t, "EquationsOf", code, impl.ErrInvalid)
	_, code = impl.HoldsIn(system("2 1 1=0 1=1"), long)
	same(t, "HoldsIn", code, impl.ErrRange)
	_, code = impl.DerivationOf(system("2 1 1=0 1=1"), impl.Equation{Left: long})
	same(t, "DerivationOf", code, impl.ErrRange)
	_, code = impl.Follows(impl.System{Prime: 2, Unknowns: 900000}, impl.Equation{Left: long})
	same(t, "Follows", code, impl.ErrInvalid)
	wide := impl.System{Prime: 2, Unknowns: 900000, List: []impl.Equation{{Left: long}}}
	same(t, "SameSystem", impl.SameSystem(wide, impl.System{Prime: 2, Unknowns: 900000, List: []impl.Equation{{Left: slices.Clone(long)}}}), true)
	same(t, "SystemText", impl.SystemText(wide), "")
	hull, code := impl.AffineHull(3, 2, slices.Repeat([][]int64{{0, 1}, {2, 2}}, 150000))
	same(t, "AffineHull", []any{hull, code}, "[{2 [[0 1] [1 0] [2 2]]} 0]")
	_, code = impl.AffineHull(3, 2, slices.Repeat([][]int64{nil}, 900000))
	same(t, "AffineHull", code, impl.ErrRange)
}
