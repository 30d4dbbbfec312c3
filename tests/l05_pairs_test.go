package tests

import (
	"fmt"
	"math"
	"math/rand/v2"
	"slices"
	"testing"

	"loop.example/g01085/impl"
)

// pairSets has the pairs that are left for each two variables, in both orders.
type pairSets map[[2]int64]map[[2]int64]bool

// tellsPair tells by the definition whether a tuple of a constraint has equal
// values for places with the same variable, and some values for two variables.
func tellsPair(c impl.Con, tuple []int64, i, a, j, b int64) bool {
	for p, variable := range c.Scope {
		if variable == i && tuple[p] != a || variable == j && tuple[p] != b {
			return false
		}
		for q, other := range c.Scope {
			if variable == other && tuple[p] != tuple[q] {
				return false
			}
		}
	}
	return true
}

// isTold tells by the definition whether all constraints allow values of two
// variables, each by itself.
func isTold(x impl.Template, y impl.Instance, i, a, j, b int64) bool {
	for _, c := range y.Cons {
		matters := slices.Contains(c.Scope, i) || slices.Contains(c.Scope, j)
		isThere := func(tuple []int64) bool { return tellsPair(c, tuple, i, a, j, b) }
		if matters && !slices.ContainsFunc(x.Rels[c.Rel].Tuples, isThere) {
			return false
		}
	}
	return true
}

// firstPairsBy returns the pairs that the constraints tell, by the definition.
func firstPairsBy(x impl.Template, y impl.Instance) pairSets {
	left := pairSets{}
	for i := range y.Vars {
		for j := range y.Vars {
			left[[2]int64{i, j}] = map[[2]int64]bool{}
			for _, pair := range listsOf(x.Size, 2) {
				if i != j && isTold(x, y, i, pair[0], j, pair[1]) {
					left[[2]int64{i, j}][[2]int64(pair)] = true
				}
			}
		}
	}
	return left
}

// complete makes a step, by the definition, and tells whether it removes pairs.
func (left pairSets) complete(size int64, s impl.PairStep) bool {
	removes := false
	for pair := range left[[2]int64{s.I, s.J}] {
		isCompleted := false
		for c := range size {
			isCompleted = isCompleted || left[[2]int64{s.I, s.Through}][[2]int64{pair[0], c}] && left[[2]int64{s.Through, s.J}][[2]int64{c, pair[1]}]
		}
		if !isCompleted {
			delete(left[[2]int64{s.I, s.J}], pair)
			delete(left[[2]int64{s.J, s.I}], [2]int64{pair[1], pair[0]})
			removes = true
		}
	}
	return removes
}

// list returns the pair relations in their order.
func (left pairSets) list(size, vars int64) []impl.Rel {
	var list []impl.Rel
	for j := range vars {
		for i := range j {
			list = append(list, relWhere(size, 2, func(pair []int64) bool { return left[[2]int64{i, j}][[2]int64(pair)] }))
		}
	}
	return list
}

// pairsBy makes pairs, by the definition; it tells in how many rounds.
func pairsBy(x impl.Template, y impl.Instance) ([]impl.Rel, []impl.PairStep, int) {
	left := firstPairsBy(x, y)
	var steps []impl.PairStep
	for round := 1; ; round++ {
		before := len(steps)
		for j := range y.Vars {
			for i := range j {
				for k := range y.Vars {
					s := impl.PairStep{I: i, J: j, Through: k}
					if k != i && k != j && left.complete(x.Size, s) {
						steps = append(steps, s)
					}
				}
			}
		}
		if len(steps) == before {
			return left.list(x.Size, y.Vars), steps, round
		}
	}
}

// replayPairsBy returns what ReplayPairs has to return, by the definition.
func replayPairsBy(x impl.Template, y impl.Instance, steps []impl.PairStep) []any {
	left := firstPairsBy(x, y)
	for at, s := range steps {
		isStep := 0 <= s.I && s.I < s.J && s.J < y.Vars && 0 <= s.Through && s.Through < y.Vars && s.Through != s.I && s.Through != s.J
		if !isStep || !left.complete(x.Size, s) {
			return []any{"[]", at, impl.ErrProof}
		}
	}
	return []any{left.list(x.Size, y.Vars), 0, 0}
}

// checkPairs compares the pairs of an instance with the definition; it returns
// the number of rounds.
func checkPairs(t *testing.T, x impl.Template, y impl.Instance) int {
	t.Helper()
	first := firstPairsBy(x, y).list(x.Size, y.Vars)
	left, steps, rounds := pairsBy(x, y)
	wantCall(t, "FirstPairs", []any{first, 0}, impl.FirstPairs, roomyTemplate(x), roomyInstance(y))
	wantCall(t, "MakePairs", []any{left, steps, 0}, impl.MakePairs, roomyTemplate(x), roomyInstance(y))
	wantCall(t, "ReplayPairs", []any{left, 0, 0}, impl.ReplayPairs, roomyTemplate(x), roomyInstance(y), steps)
	wantCall(t, "ReplayPairs", []any{first, 0, 0}, impl.ReplayPairs, x, y, nil)
	same(t, "pair relations", len(left), y.Vars*(y.Vars-1)/2)
	for j := range y.Vars {
		for i := range j {
			index, code := impl.PairIndex(y.Vars, i, j)
			same(t, "PairIndex", code, impl.OK)
			checkHasAll(t, x, y, left[index], i, j)
		}
	}
	return rounds
}

// checkHasAll checks that a pair relation has the pairs of all solutions.
func checkHasAll(t *testing.T, x impl.Template, y impl.Instance, r impl.Rel, i, j int64) {
	t.Helper()
	same(t, "ValidRel", impl.ValidRel(x.Size, r) && r.Arity == 2, true)
	if math.Pow(float64(x.Size), float64(y.Vars)) > 300 {
		return
	}
	pairs := setOf(r)
	for _, values := range solutionsBy(x, y) {
		if !pairs[keyOf([]int64{values[i], values[j]})] {
			t.Errorf("the solution %v of %s is not in %v for %d and %d", values, shortOf(y), r, i, j)
		}
	}
}

// checkPairReplays compares the replaying of steps near those of MakePairs with
// the definition.
func checkPairReplays(t *testing.T, source *rand.Rand, x impl.Template, y impl.Instance) {
	t.Helper()
	_, steps, _ := pairsBy(x, y)
	steps = append(make([]impl.PairStep, 0, len(steps)+3), steps...)
	check := func(near []impl.PairStep) {
		wantCall(t, "ReplayPairs", replayPairsBy(x, y, near), impl.ReplayPairs, x, y, near)
	}
	shuffled := slices.Clone(steps)
	source.Shuffle(len(steps), func(i, j int) { shuffled[i], shuffled[j] = shuffled[j], shuffled[i] })
	check(shuffled)
	for at := range steps {
		check(steps[:at])
		check(steps[at:])
		check(slices.Delete(slices.Clone(steps), at, at+1))
		check(slices.Insert(slices.Clone(steps), at, steps[source.IntN(len(steps))]))
		near := slices.Clone(steps)
		s := &near[at]
		*[]*int64{&s.I, &s.J, &s.Through}[source.IntN(3)] = source.Int64N(y.Vars+2) - 1
		check(near)
	}
}

func TestPairsByDefinition(t *testing.T) {
	source := rand.New(rand.NewPCG(41, 5))
	rounds := map[int]int{}
	eachInstance(4, 1100, func(x impl.Template, y impl.Instance) {
		rounds[checkPairs(t, x, y)]++
		checkPairReplays(t, source, x, y)
	})
	for range 60 {
		x := impl.Template{Size: 4}
		for range 3 {
			percent := 50 + source.IntN(25)
			x.Rels = append(x.Rels, relWhere(4, 2, func([]int64) bool { return source.IntN(100) < percent }))
		}
		rounds[checkPairs(t, x, randomInstance(source, x, 6+source.Int64N(3), 7))]++
	}
	// the last round is that in which nothing goes
	rounds[checkPairs(t, template(t, "4/2 00 02 11 12 20 21 22 23 30 31 33/2 03 10 12 20 30 31 32 33/2 00 02 10 12 13 20 21 23 30"), instance("6 2:45 0:51 0:10 0:03 0:32 1:53 0:41 2:43 2:31 0:42"))]++
	rounds[checkPairs(t, template(t, "4/2 00 01 02 10 11 13 22 23 30 31 32 33/2 00 01 10 11 12 21 22 23 30 31 33/2 02 03 10 12 20 21 23 30 33"), instance("7 1:04 1:43 1:32 0:26 1:65 0:51 2:46 2:63 1:52 0:01"))]++
	if rounds[1] < 50 || rounds[2] < 50 || rounds[3] < 15 || rounds[5] < 2 {
		t.Errorf("too few rounds: %v", rounds)
	}
}

func TestPairIndex(t *testing.T) {
	for vars := int64(1); vars <= 10; vars++ {
		next := 0
		for j := range vars {
			for i := range j {
				wantCall(t, "PairIndex", []any{next, 0}, impl.PairIndex, vars, i, j)
				wantCall(t, "PairIndex", []any{next, 0}, impl.PairIndex, vars, j, i)
				next++
			}
			wantCode(t, "PairIndex of equal variables", impl.ErrRange, impl.PairIndex, vars, j, j)
			for _, other := range append([]int64{vars, vars + 1, -2}, farAway...) {
				wantCode(t, "PairIndex", impl.ErrRange, impl.PairIndex, vars, j, other)
				wantCode(t, "PairIndex", impl.ErrRange, impl.PairIndex, vars, other, j)
				wantCode(t, "PairIndex", impl.ErrRange, impl.PairIndex, vars, other, other)
			}
		}
	}
	wantCall(t, "PairIndex", []any{44, 0}, impl.PairIndex, 10, 9, 8)
	wantCall(t, "PairIndex", []any{0, 0}, impl.PairIndex, 2, 1, 0)
	for _, vars := range append([]int64{0, 11, 12, -2}, farAway...) {
		for _, pair := range [][2]int64{{0, 1}, {1, 0}, {2, 8}, {-1, 0}, {0, 10}, {0, 0}, {math.MinInt64, math.MaxInt64}} {
			wantCode(t, "PairIndex", impl.ErrRange, impl.PairIndex, vars, pair[0], pair[1])
		}
	}
}

// tuplesOf writes the tuples of relations down.
func tuplesOf(rels []impl.Rel) string {
	var list [][][]int64
	for _, r := range rels {
		list = append(list, r.Tuples)
	}
	return fmt.Sprint(list)
}

// wantFirstPairs checks the tuples of FirstPairs.
func wantFirstPairs(t *testing.T, x impl.Template, short, want string) {
	t.Helper()
	results := call(t, impl.FirstPairs, x, instance(short))
	same(t, "FirstPairs of "+short, []any{tuplesOf(results[0].([]impl.Rel)), results[1]}, []any{want, 0})
	checkPairs(t, x, instance(short))
}

func TestFirstPairs(t *testing.T) {
	x := template(t, "2/2 01/1 1/3 001 110 111/2/2 00 01")
	all := "[[0 0] [0 1] [1 0] [1 1]]"
	wantFirstPairs(t, x, "1", "[]")
	wantFirstPairs(t, x, "1 1:0", "[]")
	wantFirstPairs(t, x, "2", "["+all+"]")
	wantFirstPairs(t, x, "3", "["+all+" "+all+" "+all+"]")
	// both variables, in both orders
	wantFirstPairs(t, x, "2 0:01", "[[[0 1]]]")
	wantFirstPairs(t, x, "2 0:10", "[[[1 0]]]")
	wantFirstPairs(t, x, "2 0:01 0:10", "[[]]")
	// one of both
	wantFirstPairs(t, x, "2 1:0", "[[[1 0] [1 1]]]")
	wantFirstPairs(t, x, "2 1:1", "[[[0 1] [1 1]]]")
	wantFirstPairs(t, x, "2 1:1 1:0", "[[[1 1]]]")
	wantFirstPairs(t, x, "3 0:02", "[[[0 0] [0 1]] [[0 1]] [[0 1] [1 1]]]")
	wantFirstPairs(t, x, "3 4:12", "[[[0 0] [1 0]] "+all+" [[0 0] [0 1]]]")
	// each constraint tells by itself: no values are left for all of them
	wantFirstPairs(t, x, "3 0:01 0:12", "[[] [[0 1]] []]")
	wantFirstPairs(t, x, "3 0:01 1:0", "[[] [] [[1 0] [1 1]]]")
	// a variable several times
	wantFirstPairs(t, x, "2 2:001", "[[[0 1] [1 0] [1 1]]]")
	wantFirstPairs(t, x, "2 2:010", "[[[1 1]]]")
	wantFirstPairs(t, x, "2 2:110", "[[[0 1] [1 0] [1 1]]]")
	wantFirstPairs(t, x, "2 2:000", "[[[1 0] [1 1]]]")
	wantFirstPairs(t, x, "2 2:111", "[[[0 1] [1 1]]]")
	wantFirstPairs(t, x, "2 0:00", "[[]]")
	wantFirstPairs(t, x, "3 2:020", "[[[1 0] [1 1]] [[1 1]] [[0 1] [1 1]]]")
	// none of both: it does not matter, even if the relation has no tuples
	wantFirstPairs(t, x, "3 3:22", "["+all+" [] []]")
	wantFirstPairs(t, x, "4 3:23 0:01", "[[[0 1]] [] [] [] [] []]")
	wantFirstPairs(t, x, "4 0:33 1:1", "[[[0 1] [1 1]] "+all+" [[1 0] [1 1]] [] [] []]")
	// MaxCons constraints, of which the last one matters
	wantFirstPairs(t, x, "2"+repeated(" 4:01", 23)+" 1:1", "[[[0 1]]]")
	wantFirstPairs(t, impl.Template{Size: 1}, "3", "[[[0 0]] [[0 0]] [[0 0]]]")
	// the list goes with the greater variable first
	wantFirstPairs(t, x, "4 1:0 0:13", "[[[1 0]] [[1 0] [1 1]] [[0 0] [0 1]] [[1 1]] [[0 1]] [[0 1] [1 1]]]")
}

// wantPairs checks the tuples of MakePairs, and its steps.
func wantPairs(t *testing.T, x impl.Template, short, left, steps string) {
	t.Helper()
	results := call(t, impl.MakePairs, x, instance(short))
	same(t, "MakePairs of "+short, []any{tuplesOf(results[0].([]impl.Rel)), results[1], results[2]}, []any{left, steps, 0})
	checkPairs(t, x, instance(short))
	checkPairReplays(t, rand.New(rand.NewPCG(42, 5)), x, instance(short))
}

func TestOrderOfPairSteps(t *testing.T) {
	// instances of one variable and of two have no steps
	wantPairs(t, example(), "1", "[]", "[]")
	wantPairs(t, example(), "1 0:00 1:0", "[]", "[]")
	wantPairs(t, example(), "2 0:01", "[[[0 1] [1 0]]]", "[]")
	wantPairs(t, example(), "2 0:01 1:0 1:1", "[[]]", "[]")
	// pairs that get empty, and take others with them
	wantPairs(t, example(), "3 0:01 0:12 0:02", "[[] [] []]", "[{0 1 2} {0 2 1} {1 2 0}]")
	wantPairs(t, example(), "3 1:0 1:1 0:01", "[[] [] []]", "[{0 2 1} {1 2 0}]")
	wantPairs(t, example(), "3 0:01 0:12 1:0", "[[[1 0]] [[1 1]] [[0 1]]]", "[{0 2 1} {1 2 0}]")
	// pairs go through lesser and greater variables, and those between
	wantPairs(t, less(), "3 0:01 0:12", "[[[0 1] [0 2] [1 2]] [[0 2] [0 3] [1 3]] [[1 2] [1 3] [2 3]]]", "[{0 2 1}]")
	wantPairs(t, less(), "3 0:20 0:01", "[[[1 2] [1 3] [2 3]] [[1 0] [2 0] [2 1]] [[2 0] [3 0] [3 1]]]", "[{1 2 0}]")
	wantPairs(t, less(), "3 0:02 0:21", "[[[0 2] [0 3] [1 3]] [[0 1] [0 2] [1 2]] [[2 1] [3 1] [3 2]]]", "[{0 1 2}]")
}

func TestPairsOfManyVariables(t *testing.T) {
	// MaxInstanceVars variables, and MaxCons constraints
	ring := instance("10 0:01 0:12 0:23 0:34 0:45 0:56 0:67 0:78 0:89" + repeated(" 0:09", 15))
	checkPairs(t, example(), ring)
	checkPairs(t, example(), instance("10 0:98 0:87 0:76 0:65 0:54 0:43 0:32 0:21 0:10 0:02"))
	checkPairs(t, less(), instance("10 0:90 0:91 0:87 0:04"))
	checkPairs(t, impl.Template{Size: 1}, instance("10"))
	checkPairs(t, impl.Template{Size: 4}, instance("10"))
	checkPairs(t, largest(), instance("10 0:0123 5:9876"))
	checkPairs(t, template(t, "4/4 0123 1230 2301 3012 3210/2 00 11 22 33"), instance("10 0:0123 0:3456 0:6789 1:09 1:45"))
}

func TestPairStepsThatAreNotRight(t *testing.T) {
	x := instance("3 0:01 0:12 0:02")
	wrongSteps := []impl.PairStep{
		// i is not less than j
		{I: 1, J: 0, Through: 2}, {I: 2, J: 0, Through: 1}, {I: 2, J: 1, Through: 0}, {I: 0, J: 0, Through: 1}, {I: 1, J: 1, Through: 2}, {},
		// the third variable is one of both
		{I: 0, J: 1, Through: 0}, {I: 0, J: 1, Through: 1}, {I: 1, J: 2, Through: 1}, {I: 1, J: 2, Through: 2},
		{I: 0, J: 3, Through: 1}, {I: 0, J: 1, Through: 3}, {I: -1, J: 1, Through: 2}, {I: 0, J: 1, Through: -1}, {I: -1, J: -2, Through: 0}, {I: -2, J: -1, Through: 0}, {I: 3, J: 4, Through: 5},
	}
	for _, number := range farAway {
		wrongSteps = append(wrongSteps, impl.PairStep{I: number, J: 1, Through: 2}, impl.PairStep{I: 0, J: number, Through: 2}, impl.PairStep{I: 0, J: 1, Through: number}, impl.PairStep{I: number, J: number, Through: number})
	}
	right := []impl.PairStep{{I: 1, J: 2, Through: 0}, {I: 0, J: 1, Through: 2}, {I: 0, J: 2, Through: 1}}
	for _, step := range wrongSteps {
		wantCall(t, "ReplayPairs", []any{"[]", 0, impl.ErrProof}, impl.ReplayPairs, example(), x, []impl.PairStep{step})
		wantCall(t, "ReplayPairs", []any{"[]", 1, impl.ErrProof}, impl.ReplayPairs, example(), x, []impl.PairStep{right[0], step, right[1]})
		wantCall(t, "ReplayPairs", []any{"[]", 2, impl.ErrProof}, impl.ReplayPairs, example(), x, append(right[:2:2], step))
	}
	wantCall(t, "ReplayPairs", []any{"[{2 []} {2 []} {2 []}]", 0, 0}, impl.ReplayPairs, example(), x, right)
	wantCall(t, "ReplayPairs", []any{"[{2 []} {2 [[0 1] [1 0]]} {2 []}]", 0, 0}, impl.ReplayPairs, example(), x, right[:2])
	// steps that remove nothing: at once, or as they have been made before
	wantCall(t, "ReplayPairs", []any{"[]", 3, impl.ErrProof}, impl.ReplayPairs, example(), x, append(right[:3:3], right[0]))
	wantCall(t, "ReplayPairs", []any{"[]", 1, impl.ErrProof}, impl.ReplayPairs, example(), x, []impl.PairStep{right[2], right[2], right[0]})
	for _, step := range right {
		wantCall(t, "ReplayPairs", []any{"[]", 0, impl.ErrProof}, impl.ReplayPairs, example(), instance("3"), []impl.PairStep{step})
	}
	wantCall(t, "ReplayPairs", []any{"[]", 0, impl.ErrProof}, impl.ReplayPairs, example(), instance("3 0:01 0:12"), []impl.PairStep{{I: 0, J: 1, Through: 2}})
	for _, short := range []string{"1", "2 0:01"} {
		for _, step := range append(right, impl.PairStep{}, impl.PairStep{I: 0, J: 1}, impl.PairStep{I: 0, J: 1, Through: 1}) {
			wantCall(t, "ReplayPairs", []any{"[]", 0, impl.ErrProof}, impl.ReplayPairs, example(), instance(short), []impl.PairStep{step})
		}
	}
}
