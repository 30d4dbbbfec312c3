package tests

import (
	"math"
	"math/rand/v2"
	"slices"
	"strings"
	"testing"

	"loop.example/g01085/impl"
)

// majorities returns operations of the kind KdMajority of a size: the value in
// the middle, and those that give three different values the first or last one.
func majorities(size int64) []impl.Op {
	first := func(x []int64) int64 {
		if x[1] == x[2] {
			return x[1]
		}
		return x[0]
	}
	last := func(x []int64) int64 {
		if x[0] == x[1] {
			return x[0]
		}
		return x[2]
	}
	return []impl.Op{opWhere(size, 3, middle), opWhere(size, 3, first), opWhere(size, 3, last)}
}

// greedyBy returns the values that GreedyValues has to return, by the definition;
// false if a variable has none.
func greedyBy(size, vars int64, pairs []impl.Rel) ([]int64, bool) {
	has := func(i, a, j, b int64) bool {
		index := int64(0)
		for high := range j {
			index += high
		}
		return slices.ContainsFunc(pairs[index+i].Tuples, func(pair []int64) bool { return pair[0] == a && pair[1] == b })
	}
	fits := func(values []int64, value int64) bool {
		next := int64(len(values))
		for i, before := range values {
			if !has(int64(i), before, next, value) {
				return false
			}
		}
		for j := int64(1); j < vars && next == 0; j++ {
			comes := false
			for b := range size {
				comes = comes || has(0, value, j, b)
			}
			if !comes {
				return false
			}
		}
		return true
	}
	var values []int64
	for range vars {
		value := int64(0)
		for value < size && !fits(values, value) {
			value++
		}
		if value == size {
			return nil, false
		}
		values = append(values, value)
	}
	return values, true
}

// checkGreedy compares the values of pair relations with the definition, and
// reports whether there are some.
func checkGreedy(t *testing.T, size, vars int64, pairs []impl.Rel) bool {
	t.Helper()
	x, y := impl.Template{Size: size}, impl.Instance{Vars: vars}
	room := roomyTemplate(impl.Template{Rels: pairs}).Rels
	values, ok := greedyBy(size, vars, pairs)
	if !ok {
		wantCode(t, "GreedyValues", impl.ErrNotFound, impl.GreedyValues, x, y, room)
		return false
	}
	wantCall(t, "GreedyValues", []any{values, 0}, impl.GreedyValues, x, y, room)
	return true
}

// pairRels returns the pair relations of a size that short texts tell, such as
// "01 10"; "-" tells none.
func pairRels(t *testing.T, size int64, texts ...string) []impl.Rel {
	t.Helper()
	var list []impl.Rel
	for _, text := range texts {
		if text == "-" {
			text = ""
		}
		r := impl.Rel{Arity: 2}
		for _, pair := range slices.Sorted(strings.FieldsSeq(text)) {
			r.Tuples = append(r.Tuples, []int64{int64(pair[0] - '0'), int64(pair[1] - '0')})
		}
		same(t, "ValidRel", impl.ValidRel(size, r), true)
		list = append(list, r)
	}
	return list
}

func TestGreedyValuesByDefinition(t *testing.T) {
	source := rand.New(rand.NewPCG(8, 6))
	counts := map[bool]int{}
	for range 500 {
		size, vars := 1+source.Int64N(4), 1+source.Int64N(6)
		percent := 50 + source.IntN(50)
		var pairs []impl.Rel
		for range vars * (vars - 1) / 2 {
			pairs = append(pairs, relWhere(size, 2, func([]int64) bool { return source.IntN(100) < percent }))
		}
		counts[checkGreedy(t, size, vars, pairs)]++
	}
	if counts[true] < 100 || counts[false] < 50 {
		t.Errorf("too few values: %v", counts)
	}
	// what constraints say does not matter, only the pairs
	wantCall(t, "GreedyValues", []any{"[0 0 0]", 0}, impl.GreedyValues, example(), colours(), pairRels(t, 2, "00", "00", "00"))
	full := slices.Repeat([]impl.Rel{{Arity: 2, Tuples: listsOf(4, 2)}}, 45)
	checkGreedy(t, 4, 10, full)
	full[44] = impl.Rel{Arity: 2, Tuples: [][]int64{{0, 3}}}
	wantCall(t, "GreedyValues", []any{"[0 0 0 0 0 0 0 0 0 3]", 0}, impl.GreedyValues, impl.Template{Size: 4}, impl.Instance{Vars: 10}, full)
	full[44] = impl.Rel{Arity: 2, Tuples: [][]int64{{1, 3}}}
	wantCode(t, "GreedyValues", impl.ErrNotFound, impl.GreedyValues, impl.Template{Size: 4}, impl.Instance{Vars: 10}, full)
}

func TestKnownGreedyValues(t *testing.T) {
	all := "00 01 02 10 11 12 20 21 22"
	for _, c := range []struct {
		pairs []string
		want  string
	}{
		// one variable alone, and two
		{nil, "[0]"}, {[]string{all}, "[0 0]"}, {[]string{"12 21"}, "[1 2]"}, {[]string{"02 12 10"}, "[0 2]"}, {[]string{"20"}, "[2 0]"},
		// the variable 0 has a value that comes in all pair relations of it
		{[]string{"01 12", "10 20", all}, "[1 2 0]"}, {[]string{"01 22", "10 20", all}, "[2 2 0]"}, {[]string{all, "22", all}, "[2 0 2]"},
		// and its pair relation with the last one is one of them
		{[]string{"00 10 20", all, all, "10 20", all, all}, "[1 0 0 0]"},
		// all variables before matter
		{[]string{all, "01 02 12", "01 00"}, "[0 0 1]"}, {[]string{all, "01 02 12", "02 00"}, "[0 0 2]"}, {[]string{"01 00", all, "11 12 02"}, "[0 0 2]"},
		{[]string{all, all, all, "00 02", "01 02", "02 01"}, "[0 0 0 2]"},
		// pairs go from the lesser variable to the greater one
		{[]string{"01", "02", "12"}, "[0 1 2]"}, {[]string{"10", "20", "01 00"}, ""},
	} {
		vars := int64(1)
		for vars*(vars-1)/2 < int64(len(c.pairs)) {
			vars++
		}
		pairs := pairRels(t, 3, c.pairs...)
		if checkGreedy(t, 3, vars, pairs) {
			wantCall(t, "GreedyValues", []any{c.want, 0}, impl.GreedyValues, impl.Template{Size: 3}, impl.Instance{Vars: vars}, pairs)
		}
	}
	for _, pairs := range [][]string{
		// the first variable has no value left
		{"-"}, {"-", all, all}, {all, "-", all}, {"01", "10", all}, {"01 02", "10 20", all}, {"00", "11", all},
		// the last one
		{all, all, "-"}, {all, "01 02", "00"}, {all, all, all, "01", "02", "00 01 02"}, {"00", "00", "11 12 20"},
		// one between
		{all, "00", "01", all, all, all}, {all, "01 12", "00 12", all, all, all},
		// no other value is looked for, though one would do
		{all, "00 11", "11"}, {"01 02", all, "20"},
	} {
		vars := int64(2)
		for vars*(vars-1)/2 < int64(len(pairs)) {
			vars++
		}
		wantCode(t, "GreedyValues", impl.ErrNotFound, impl.GreedyValues, impl.Template{Size: 3}, impl.Instance{Vars: vars}, pairRels(t, 3, pairs...))
	}
}

func TestPairRelationsThatAreNot(t *testing.T) {
	x := impl.Template{Size: 2}
	full := impl.Rel{Arity: 2, Tuples: listsOf(2, 2)}
	for vars := int64(1); vars <= 10; vars++ {
		for count := range 60 {
			want := int64(impl.OK)
			if int64(count) != vars*(vars-1)/2 {
				want = impl.ErrRange
			}
			if count < 5 || vars*(vars-1)/2-int64(count) < 2 {
				wantCode(t, "GreedyValues", want, impl.GreedyValues, x, impl.Instance{Vars: vars}, slices.Repeat([]impl.Rel{full}, count))
			}
		}
	}
	bad := badRels()
	for arity := int64(1); arity <= 4; arity++ {
		if arity != 2 {
			bad = append(bad, impl.Rel{Arity: arity}, impl.Rel{Arity: arity, Tuples: listsOf(2, arity)})
		}
	}
	bad = append(bad, impl.Rel{Arity: 2, Tuples: [][]int64{{0, 0}, {2, 2}}})
	for _, r := range bad {
		wantCode(t, "GreedyValues", impl.ErrRange, impl.GreedyValues, x, instance("2"), []impl.Rel{r})
		for i := range 3 {
			pairs := []impl.Rel{full, full, full}
			pairs[i] = r
			wantCode(t, "GreedyValues", impl.ErrRange, impl.GreedyValues, x, instance("3"), pairs)
			// ahead of a variable that has no value left
			pairs[(i+1)%3] = impl.Rel{Arity: 2}
			wantCode(t, "GreedyValues", impl.ErrRange, impl.GreedyValues, x, instance("3"), pairs)
		}
		wantCode(t, "GreedyValues", impl.ErrRange, impl.GreedyValues, x, instance("1"), []impl.Rel{r})
	}
	// relations of another size
	wantCode(t, "GreedyValues", impl.ErrRange, impl.GreedyValues, x, instance("2"), []impl.Rel{{Arity: 2, Tuples: [][]int64{{0, 2}}}})
	wantCode(t, "GreedyValues", impl.OK, impl.GreedyValues, impl.Template{Size: 3}, instance("2"), []impl.Rel{{Arity: 2, Tuples: [][]int64{{0, 2}}}})
	wantCode(t, "GreedyValues", impl.ErrRange, impl.GreedyValues, x, instance("3"), []impl.Rel{{Arity: 2}})
}

// pairsVerdictBy returns the verdict that SolveByMajority has to return for an
// operation that is one of its kind.
func pairsVerdictBy(x impl.Template, y impl.Instance) impl.Verdict {
	if y.Vars == 1 {
		return arcsVerdictBy(x, y, slices.Min[[]int64])
	}
	left, steps, _ := pairsBy(x, y)
	if slices.ContainsFunc(left, func(r impl.Rel) bool { return len(r.Tuples) == 0 }) {
		return impl.Verdict{Kind: impl.VkPairs, Pairs: steps}
	}
	values, _ := greedyBy(x.Size, y.Vars, left)
	return impl.Verdict{Kind: impl.VkSolution, Values: values}
}

// checkByMajority compares the answer of SolveByMajority with the definition, and
// returns the kind of the verdict, -1 if there is none.
func checkByMajority(t *testing.T, x impl.Template, y impl.Instance, f impl.Op) int64 {
	t.Helper()
	if !isKind(x.Size, f, impl.KdMajority) || !isPolymorphismBy(x, f) {
		wantCode(t, "SolveByMajority", impl.ErrState, impl.SolveByMajority, roomyTemplate(x), roomyInstance(y), roomyOp(f))
		return -1
	}
	v := pairsVerdictBy(x, y)
	wantCall(t, "SolveByMajority", []any{v, 0}, impl.SolveByMajority, roomyTemplate(x), roomyInstance(y), roomyOp(f))
	checkSolved(t, x, y, v)
	return v.Kind
}

func TestSolveByMajority(t *testing.T) {
	source := rand.New(rand.NewPCG(9, 6))
	counts := map[int64]int{}
	for size := int64(1); size <= 4; size++ {
		for i, f := range majorities(size) {
			for _, x := range closedTemplates(uint64(20*size)+uint64(i), size, 14, f) {
				x.Rels = slices.DeleteFunc(x.Rels, func(r impl.Rel) bool { return len(r.Tuples) > 30 }) // too slow by the definition
				for range 4 {
					y := randomInstance(source, x, 1+source.Int64N(5), source.IntN(6))
					counts[checkByMajority(t, x, y, f)]++
				}
				counts[checkByMajority(t, x, randomInstance(source, x, 1, 1+source.IntN(3)), f)]++
				for _, g := range append(majorities(size), leastOf, opWhere(size, 2, slices.Min[[]int64]), opWhere(size, 3, slices.Min[[]int64])) {
					if impl.ValidOp(size, g) {
						counts[checkByMajority(t, x, instance("3"), g)]++
					}
				}
			}
		}
	}
	if counts[impl.VkSolution] < 200 || counts[impl.VkPairs] < 100 || counts[impl.VkArcs] < 15 || counts[-1] < 200 {
		t.Errorf("too few verdicts: %v", counts)
	}
}

func TestKnownVerdictsByMajority(t *testing.T) {
	two := majorities(2)[0]
	x := template(t, "2/2 01 10/1 1/1 0/2 00 01 11/2")
	for _, c := range []struct{ short, want string }{
		// one variable: arcs
		{"1", "{0 [0] [] [] []}"}, {"1 1:0", "{0 [1] [] [] []}"}, {"1 3:00", "{0 [0] [] [] []}"}, {"1 0:00", "{1 [] [{0 0 0} {0 1 0}] [] []}"}, {"1 2:0 1:0", "{1 [] [{0 1 0} {0 0 1}] [] []}"}, {"1 4:00", "{1 [] [{0 0 0} {0 1 0}] [] []}"},
		// two: pairs without steps
		{"2", "{0 [0 0] [] [] []}"}, {"2 0:01", "{0 [0 1] [] [] []}"}, {"2 0:01 1:0", "{0 [1 0] [] [] []}"}, {"2 0:00", "{2 [] [] [] []}"}, {"2 0:01 1:0 1:1", "{2 [] [] [] []}"}, {"2 0:11", "{2 [] [] [] []}"}, {"2 4:10", "{2 [] [] [] []}"},
		// many: steps in the order of chapter 5
		{"3", "{0 [0 0 0] [] [] []}"}, {"3 0:01 0:12", "{0 [0 1 0] [] [] []}"}, {"3 0:01 0:12 1:0", "{0 [1 0 1] [] [] []}"}, {"3 1:2 0:21 3:10", "{0 [0 0 1] [] [] []}"},
		{"3 0:01 0:12 0:02", "{2 [] [] [{0 1 2} {0 2 1} {1 2 0}] []}"}, {"3 1:0 1:1 0:01", "{2 [] [] [{0 2 1} {1 2 0}] []}"},
		// that a constraint of a third variable has no tuples is seen in the pairs of this one
		{"3 4:22", "{2 [] [] [{0 1 2}] []}"}, {"3 4:01", "{2 [] [] [] []}"},
	} {
		wantCall(t, "SolveByMajority", []any{c.want, 0}, impl.SolveByMajority, x, instance(c.short), two)
		checkByMajority(t, x, instance(c.short), two)
	}
	// a ring of odd length, and one of even length
	wantCall(t, "SolveByMajority", []any{"{0 [0 1 0 1 0 1 0 1 0 1] [] [] []}", 0}, impl.SolveByMajority, x, instance("10 0:01 0:12 0:23 0:34 0:45 0:56 0:67 0:78 0:89 0:90"), two)
	checkByMajority(t, x, instance("9 0:01 0:12 0:23 0:34 0:45 0:56 0:67 0:78 0:80"), two)
	// relations of more than two places are told by their pairs
	rising := impl.Template{Size: 3, Rels: []impl.Rel{relWhere(3, 3, func(x []int64) bool { return x[0] < x[1] && x[1] <= x[2] })}}
	wantCall(t, "SolveByMajority", []any{"{0 [0 1 2 2] [] [] []}", 0}, impl.SolveByMajority, rising, instance("4 0:012 0:123"), majorities(3)[0])
	wantCall(t, "SolveByMajority", []any{"{2 [] [] [] []}", 0}, impl.SolveByMajority, rising, instance("2 0:001"), majorities(3)[0])
	checkByMajority(t, rising, instance("4 0:012 0:123 0:133"), majorities(3)[0])
	clauses := template(t, "2/3 001 010 011 100 101 110 111")
	wantCode(t, "SolveByMajority", impl.ErrState, impl.SolveByMajority, clauses, instance("3 0:012"), two)
	wantCode(t, "SolveByMajority", impl.ErrState, impl.SolveByMajority, clauses, instance("3"), two)
}

func TestOperationsThatAreNoMajorities(t *testing.T) {
	for arity := int64(1); arity <= 3; arity++ {
		for _, f := range append(someOps(2, arity), majorities(2)...) {
			checkByMajority(t, impl.Template{Size: 2}, instance("2"), f)
		}
	}
	for _, f := range append(someOps(3, 3), affine(3), opWhere(3, 2, slices.Min[[]int64])) {
		checkByMajority(t, impl.Template{Size: 3}, instance("1"), f)
		checkByMajority(t, impl.Template{Size: 3}, instance("3"), f)
	}
	// operations that are none in one place of the table alone
	for cell := range int64(27) {
		f := majorities(3)[0]
		f.Table[cell] = (f.Table[cell] + 1) % 3
		checkByMajority(t, impl.Template{Size: 3}, instance("2"), f)
	}
}

func TestLargeArgumentsOfSolvers(t *testing.T) {
	long := make([]int64, 900000)
	value, code := impl.FoldValues(order(), leastOf, long)
	same(t, "FoldValues", []int64{value, code}, []int64{0, impl.OK})
	long[len(long)-1] = math.MinInt64
	_, code = impl.FoldValues(order(), leastOf, long)
	same(t, "FoldValues", code, impl.ErrRange)
	_, code = impl.GreedyValues(order(), instance("3"), make([]impl.Rel, 300000))
	same(t, "GreedyValues", code, impl.ErrRange)
	_, code = impl.GreedyValues(order(), instance("2"), []impl.Rel{{Arity: 2, Tuples: slices.Repeat([][]int64{{0, 1}}, 300000)}})
	same(t, "GreedyValues", code, impl.ErrRange)
	for _, v := range []impl.Verdict{
		{Values: long}, {Kind: 1, Arcs: make([]impl.ArcStep, 300000)}, {Kind: 2, Pairs: slices.Repeat([]impl.PairStep{{I: 0, J: 1, Through: 2}}, 300000)}, {Kind: 3, Numbers: long}, {Kind: 4, Numbers: long}, {Kind: 1, Values: long},
	} {
		is, code := impl.IsVerdict(swap(), triangle(), v)
		same(t, "IsVerdict", []any{is, code}, "[false 0]")
		same(t, "SameVerdict", impl.SameVerdict(v, v), true)
		same(t, "SameVerdict", impl.SameVerdict(v, impl.Verdict{Kind: v.Kind}), false)
	}
	// six relations of all 256 tuples
	full := impl.Rel{Arity: 4, Tuples: listsOf(4, 4)}
	x := impl.Template{Size: 4, Rels: []impl.Rel{full, full, full, full, full, full}}
	v, code := impl.SolveByMajority(x, instance("10 0:0123 5:6789"), majorities(4)[0])
	same(t, "SolveByMajority", []any{v, code}, "[{0 [0 0 0 0 0 0 0 0 0 0] [] [] []} 0]")
}
