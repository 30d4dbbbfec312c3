package tests

import (
	"fmt"
	"math/rand/v2"
	"testing"

	"loop.example/g01085/impl"
)

// affineHullBy returns the relation of the tuples that fulfil all equations which
// some tuples, at least one, fulfil.
func affineHullBy(prime, arity int64, tuples [][]int64) impl.Rel {
	return impl.Rel{Arity: arity, Tuples: answersBy(equationsBy(prime, impl.Rel{Arity: arity, Tuples: tuples}))}
}

// roomyTuples returns the same tuples in slices that have capacity left.
func roomyTuples(tuples [][]int64) [][]int64 { return roomy(impl.Rel{Tuples: tuples}).Tuples }

// checkAffineHull compares AffineHull with the definition, and returns the hull.
func checkAffineHull(t *testing.T, prime, arity int64, tuples [][]int64) impl.Rel {
	t.Helper()
	hull := affineHullBy(prime, arity, tuples)
	wantCall(t, "AffineHull", []any{hull, 0}, impl.AffineHull, prime, arity, roomyTuples(tuples))
	wantCall(t, "AffineHull of the hull", []any{hull, 0}, impl.AffineHull, prime, arity, hull.Tuples)
	if len(hull.Tuples) < 16 { // closing a larger one by the definition takes long
		same(t, fmt.Sprint("hull of ", tuples), hull, closureBy(prime, arity, []impl.Op{affine(prime)}, tuples))
	}
	checkEquations(t, prime, hull)
	return hull
}

func TestAffineHullsByDefinition(t *testing.T) {
	counts := map[int]int{}
	for _, c := range [][3]int64{{2, 1, 2}, {2, 2, 3}, {3, 1, 3}, {3, 2, 2}, {2, 3, 2}} {
		tuples := listsOf(c[0], c[1])
		for count := int64(1); count <= c[2]; count++ {
			for _, indices := range listsOf(int64(len(tuples)), count) {
				counts[len(checkAffineHull(t, c[0], c[1], pick(tuples, indices)).Tuples)]++
			}
		}
	}
	source := rand.New(rand.NewPCG(31, 7))
	for i := range 200 {
		prime, arity := 2+int64(i)%2, 3+source.Int64N(2)
		hull := checkAffineHull(t, prime, arity, someTuples(source, prime, 1+source.IntN(5), arity))
		counts[len(hull.Tuples)]++
	}
	for _, size := range []int{1, 2, 3, 4, 8, 9, 16, 27, 81} {
		if counts[size] == 0 {
			t.Errorf("no hull has %d tuples: %v", size, counts)
		}
	}
}

func TestKnownAffineHulls(t *testing.T) {
	for _, c := range []struct {
		prime, arity int64
		tuples       [][]int64
		want         string
	}{
		{2, 1, [][]int64{{0}}, "[[0]]"}, {2, 1, [][]int64{{1}, {0}}, "[[0] [1]]"}, {3, 1, [][]int64{{2}}, "[[2]]"}, {3, 1, [][]int64{{2}, {0}}, "[[0] [1] [2]]"},
		{2, 2, [][]int64{{0, 1}, {1, 0}}, "[[0 1] [1 0]]"}, {2, 2, [][]int64{{0, 0}, {0, 1}, {1, 1}}, "[[0 0] [0 1] [1 0] [1 1]]"}, {3, 2, [][]int64{{0, 0}, {1, 1}}, "[[0 0] [1 1] [2 2]]"}, {3, 2, [][]int64{{0, 1}, {1, 0}}, "[[0 1] [1 0] [2 2]]"},
		{2, 3, [][]int64{{1, 1, 1}, {0, 0, 1}, {0, 1, 0}}, "[[0 0 1] [0 1 0] [1 0 0] [1 1 1]]"}, {2, 4, [][]int64{{1, 0, 1, 0}}, "[[1 0 1 0]]"},
		// in any order, and several times
		{2, 2, [][]int64{{1, 0}, {0, 1}, {1, 0}, {1, 0}}, "[[0 1] [1 0]]"}, {3, 1, [][]int64{{1}, {1}, {1}}, "[[1]]"}, {3, 2, [][]int64{{2, 2}, {0, 0}, {2, 2}, {0, 0}}, "[[0 0] [1 1] [2 2]]"},
	} {
		wantCall(t, "AffineHull", []any{fmt.Sprintf("{%d %s}", c.arity, c.want), 0}, impl.AffineHull, c.prime, c.arity, c.tuples)
		checkAffineHull(t, c.prime, c.arity, c.tuples)
	}
	// the greatest ones
	for _, prime := range []int64{2, 3} {
		full := listsOf(prime, 4)
		wantCall(t, "AffineHull", []any{impl.Rel{Arity: 4, Tuples: full}, 0}, impl.AffineHull, prime, 4, full)
		wantCall(t, "AffineHull", []any{impl.Rel{Arity: 4, Tuples: full}, 0}, impl.AffineHull, prime, 4, [][]int64{{1, 1, 1, 1}, {0, 1, 1, 1}, {1, 0, 1, 1}, {1, 1, 0, 1}, {1, 1, 1, 0}})
	}
}

func TestAffineHullsThatAreNone(t *testing.T) {
	wantHull := func(prime, arity int64, tuples ...[]int64) {
		t.Helper()
		wantCode(t, "AffineHull", impl.ErrRange, impl.AffineHull, prime, arity, tuples)
	}
	for _, prime := range noPrimes {
		wantHull(prime, 1, []int64{0})
		wantHull(prime, 2, []int64{0, 0}, []int64{0, 1})
		wantHull(prime, 1)
	}
	for _, prime := range []int64{2, 3} {
		for _, arity := range noArities {
			wantHull(prime, arity)
			wantHull(prime, arity, []int64{})
			wantHull(prime, arity, []int64{0})
			wantHull(prime, arity, []int64{0, 0, 0, 0, 0})
		}
		for arity := int64(1); arity <= 4; arity++ {
			wantHull(prime, arity) // there are no tuples
			wantHull(prime, arity, nil)
			wantHull(prime, arity, make([]int64, arity-1))
			wantHull(prime, arity, make([]int64, arity+1))
			wantHull(prime, arity, make([]int64, arity), make([]int64, arity-1))
			wantHull(prime, arity, make([]int64, arity), make([]int64, arity), make([]int64, arity+1))
			for _, number := range append([]int64{prime, 4}, farAway...) {
				far := make([]int64, arity)
				far[arity-1] = number
				wantHull(prime, arity, far)
				wantHull(prime, arity, make([]int64, arity), far)
			}
		}
	}
	wantHull(2, 1, []int64{2})
	wantCode(t, "AffineHull", impl.OK, impl.AffineHull, 3, 1, [][]int64{{2}})
}

// checkFoundAgain checks that an affine relation is found again by its equations,
// and is its own hull.
func checkFoundAgain(t *testing.T, prime int64, r impl.Rel) {
	t.Helper()
	equations, code := impl.EquationsOf(prime, r)
	same(t, fmt.Sprint("EquationsOf ", r), code, impl.OK)
	wantCall(t, "RelOfSystem", []any{r, 0}, impl.RelOfSystem, equations)
	wantCall(t, "AnswersOf", []any{r.Tuples, 0}, impl.AnswersOf, equations)
	wantCall(t, "ReduceSystem", []any{equations, 0}, impl.ReduceSystem, equations)
	wantCall(t, "AffineHull", []any{r, 0}, impl.AffineHull, prime, r.Arity, roomyTuples(r.Tuples))
	for _, tuple := range r.Tuples {
		wantCall(t, "HoldsIn", []any{true, 0}, impl.HoldsIn, equations, tuple)
	}
}

func TestAffineRelationsAreFoundAgain(t *testing.T) {
	count := 0
	for _, c := range [][2]int64{{2, 1}, {2, 2}, {2, 3}, {3, 1}, {3, 2}} {
		for _, r := range allRels(c[0], c[1]) {
			if isAffine, _ := impl.IsAffine(c[0], r); isAffine {
				checkFoundAgain(t, c[0], r)
				count++
			} else if len(r.Tuples) > 0 {
				// a relation that is not affine is less than its hull
				hull, _ := impl.AffineHull(c[0], c[1], r.Tuples)
				isPart, _ := impl.IsPartOf(c[0], r, hull)
				same(t, fmt.Sprint("hull of ", r), []any{isPart, len(hull.Tuples) > len(r.Tuples)}, []any{true, true})
			}
		}
	}
	same(t, "affine relations", count, 3+11+51+4+22)
	source := rand.New(rand.NewPCG(32, 7))
	for i := range 100 {
		prime := 2 + int64(i)%2
		checkFoundAgain(t, prime, affineHullBy(prime, 4, someTuples(source, prime, 1+source.IntN(5), 4)))
	}
}

func TestSystemsAreFoundAgain(t *testing.T) {
	counts := map[int64]int{}
	check := func(s impl.System) {
		r, code := impl.RelOfSystem(s)
		if s.Unknowns > 4 {
			same(t, "RelOfSystem", code, impl.ErrRange)
			return
		}
		same(t, "RelOfSystem of "+shortSystem(s), []any{r, code}, []any{impl.Rel{Arity: s.Unknowns, Tuples: answersBy(s)}, 0})
		reduced, _ := impl.ReduceSystem(s)
		if len(r.Tuples) == 0 {
			// no relation of no tuples is affine
			wantCall(t, "IsAffine", []any{false, 0}, impl.IsAffine, s.Prime, r)
			wantCode(t, "EquationsOf", impl.ErrState, impl.EquationsOf, s.Prime, r)
			counts[impl.ErrState]++
			return
		}
		wantCall(t, "IsAffine", []any{true, 0}, impl.IsAffine, s.Prime, r)
		wantCall(t, "EquationsOf", []any{reduced, 0}, impl.EquationsOf, s.Prime, r)
		counts[impl.OK]++
	}
	eachSystem(33, 400, check)
	for _, c := range [][3]int64{{2, 1, 3}, {2, 2, 2}, {3, 1, 2}} {
		for _, s := range allSystems(c[0], c[1], int(c[2])) {
			check(s)
		}
	}
	if counts[impl.OK] < 100 || counts[impl.ErrState] < 100 {
		t.Errorf("too few systems: %v", counts)
	}
}

func TestRelationsOfTooManyUnknowns(t *testing.T) {
	for unknowns := int64(1); unknowns <= 12; unknowns++ {
		want := int64(impl.OK)
		if unknowns > impl.MaxArity {
			want = impl.ErrRange
		}
		for _, prime := range []int64{2, 3} {
			if _, code := impl.RelOfSystem(unitSystem(prime, unknowns, 0)); code != want {
				t.Fatalf("RelOfSystem of %d unknowns: code %d", unknowns, code)
			}
			for count := range min(unknowns, 4) + 1 {
				wantCode(t, "RelOfSystem", want, impl.RelOfSystem, unitSystem(prime, unknowns, count))
			}
			// also if there is only one answer, or none
			s := unitSystem(prime, unknowns, unknowns)
			wantCode(t, "RelOfSystem", want, impl.RelOfSystem, s)
			s.List = append(s.List, impl.Equation{Left: make([]int64, unknowns), Right: 1})
			wantCode(t, "RelOfSystem", want, impl.RelOfSystem, s)
		}
	}
	// a relation without tuples has an arity
	wantCall(t, "RelOfSystem", []any{"{3 []}", 0}, impl.RelOfSystem, system("2 3 000=1"))
	wantCall(t, "RelOfSystem", []any{impl.Rel{Arity: 4, Tuples: listsOf(3, 4)}, 0}, impl.RelOfSystem, system("3 4"))
	// ErrInvalid comes ahead of ErrRange
	wantCode(t, "RelOfSystem", impl.ErrInvalid, impl.RelOfSystem, system("2 13"))
	wantCode(t, "RelOfSystem", impl.ErrInvalid, impl.RelOfSystem, system("2 5 00002=0"))
}
