package tests

import (
	"fmt"
	"math/rand/v2"
	"slices"
	"testing"

	"loop.example/g01085/impl"
)

// indicatorBy returns the formula of the hull of some tuples, by the definition.
func indicatorBy(x impl.Template, tuples [][]int64) (impl.Formula, int64) {
	places := columns(tuples)
	lists := slices.Clone(places) // of the variables
	for _, list := range listsOf(x.Size, int64(len(tuples))) {
		if !slices.ContainsFunc(places, func(l []int64) bool { return slices.Equal(l, list) }) {
			lists = append(lists, list)
		}
	}
	variable := func(list []int64) int64 {
		return int64(slices.IndexFunc(lists, func(l []int64) bool { return slices.Equal(l, list) }))
	}
	f := impl.Formula{Free: int64(len(places)), Vars: int64(len(lists))}
	for place, list := range places {
		if first := variable(list); first < int64(place) {
			f.Atoms = append(f.Atoms, impl.Atom{Rel: impl.EqualAtom, Args: []int64{first, int64(place)}})
		}
	}
	seen := map[string]bool{}
	for rel, r := range x.Rels {
		for _, indices := range listsOf(int64(len(r.Tuples)), int64(len(tuples))) {
			a := impl.Atom{Rel: int64(rel)}
			for _, list := range columns(pick(r.Tuples, indices)) {
				a.Args = append(a.Args, variable(list))
			}
			if !seen[fmt.Sprint(a)] {
				f.Atoms = append(f.Atoms, a)
			}
			seen[fmt.Sprint(a)] = true
		}
	}
	if f.Vars > impl.MaxVars || len(f.Atoms) > impl.MaxAtoms {
		return impl.Formula{}, impl.ErrLimit
	}
	return f, impl.OK
}

// wantIndicator checks the formula of a hull, and that its value is the hull, if
// this can be told.
func wantIndicator(t *testing.T, name string, want made, x impl.Template, tuples [][]int64) {
	t.Helper()
	f := wantMade(t, name, want, impl.IndicatorFormula, x, tuples)
	if want.code != impl.OK {
		return
	}
	if hull, code := hullBy(x, tuples); code == impl.OK {
		wantValue(t, name, hull, x, f)
	}
}

func TestIndicatorsByDefinition(t *testing.T) {
	source := rand.New(rand.NewPCG(41, 41))
	counts := map[int64]int{}
	for i, x := range append(smallTemplates(), someTemplates()...) {
		for count := 1; count <= 3; count++ {
			if listCount(x, int64(count)) > 20000 {
				continue
			}
			for length := int64(1); length <= 4; length++ {
				tuples := someTuples(source, x.Size, count, length)
				if i%3 == 0 {
					tuples[count-1] = slices.Clone(tuples[0])
				}
				f, code := indicatorBy(x, tuples)
				counts[code]++
				wantIndicator(t, "IndicatorFormula", made{map[bool]string{true: short(f)}[code == impl.OK], code}, roomyTemplate(x), tuples)
			}
		}
	}
	if counts[impl.OK] < 100 || counts[impl.ErrLimit] < 100 {
		t.Errorf("too few formulas: %v", counts)
	}
}

func TestKnownIndicators(t *testing.T) {
	two := impl.Template{Size: 2}
	wantIndicator(t, "example", fine("2 2 R0:01 R0:10"), swap(), [][]int64{{0, 1}})
	// further variables stand for the other lists, in their order
	wantIndicator(t, "further variables", fine("1 4"), template(t, "4"), [][]int64{{2}})
	wantIndicator(t, "further variables", fine("1 3 R0:10 R0:02 R0:21"), round(), [][]int64{{1}})
	wantIndicator(t, "further variables", fine("2 3 R0:21 R0:10 R0:02"), round(), [][]int64{{2, 1}})
	wantIndicator(t, "further variables", fine("1 4 R0:13 R0:02 R0:20 R0:31"), swap(), [][]int64{{0}, {1}})
	wantIndicator(t, "further variables", fine("2 4 R0:13 R0:02 R0:20 R0:31"), swap(), [][]int64{{0, 0}, {1, 0}})
	wantIndicator(t, "all lists at places", fine("4 4 R0:30 R0:21 R0:12 R0:03"), swap(), [][]int64{{1, 1, 0, 0}, {1, 0, 1, 0}})
	// places with equal lists are equal to the first one of them
	wantIndicator(t, "equal places", fine("2 3 =:01 R0:02 R0:20"), swap(), [][]int64{{0, 0}})
	wantIndicator(t, "equal places", fine("4 4 =:01 =:03"), impl.Template{Size: 2}, [][]int64{{1, 1, 0, 1}})
	wantIndicator(t, "equal places", fine("4 5 =:02 =:13 R0:04 R0:40"), template(t, "3/2 02 20"), [][]int64{{0, 1, 0, 1}})
	wantIndicator(t, "equal places", fine("4 7 =:01 =:02 =:03 R0:644"), template(t, "2/3 100"), [][]int64{{1, 1, 1, 1}, {0, 0, 0, 0}})
	wantIndicator(t, "equal in one tuple only", fine("2 4"), two, [][]int64{{0, 0}, {0, 1}})
	// tuples that come twice
	wantIndicator(t, "a tuple twice", fine("2 4 R0:01 R0:23 R0:32 R0:10"), swap(), [][]int64{{0, 1}, {0, 1}})
	wantIndicator(t, "one value", fine("3 3 =:01 =:02 R0:00 R2:0"), template(t, "1/2 00/3/1 0"), [][]int64{{0, 0, 0}, {0, 0, 0}, {0, 0, 0}})
	// equal relations have atoms of their own, in order, but none comes twice
	wantIndicator(t, "equal relations", fine("2 2 R0:01 R0:10 R1:01 R1:10 R2:00"), template(t, "2/2 01 10/2 01 10/2 00"), [][]int64{{0, 1}})
	wantIndicator(t, "equal values", fine("1 4 R0:0 R0:1 R0:2 R0:3 R1:00 R1:11 R1:22 R1:33"), template(t, "2/1 0 1/2 00 11"), [][]int64{{0}, {0}})
	wantIndicator(t, "no relations", fine("4 4"), two, [][]int64{{0, 0, 1, 1}, {0, 1, 0, 1}})
	wantIndicator(t, "no tuples", fine("1 2"), template(t, "2/1/4"), [][]int64{{0}})
}

func TestLimitsOfIndicators(t *testing.T) {
	two := impl.Template{Size: 2}
	// MaxVars variables, and one more
	wantIndicator(t, "8 variables", fine("4 8"), two, [][]int64{{0, 0, 0, 0}, {0, 0, 1, 1}, {0, 1, 0, 1}})
	wantIndicator(t, "8 variables", fine("1 8"), two, [][]int64{{0}, {1}, {0}})
	wantIndicator(t, "9 variables", wrong(impl.ErrLimit), two, [][]int64{{0, 0}, {0, 0}, {1, 1}})
	wantIndicator(t, "9 variables", wrong(impl.ErrLimit), two, [][]int64{{0, 0, 0, 1}, {0, 0, 1, 1}, {0, 0, 0, 1}})
	wantIndicator(t, "9 variables", wrong(impl.ErrLimit), impl.Template{Size: 3}, [][]int64{{0}, {0}})
	wantIndicator(t, "7 variables", fine("4 7 =:01 =:02 =:03"), impl.Template{Size: 4}, [][]int64{{3, 3, 3, 3}})
	// MaxAtoms atoms, and one more, of one relation, of two, and with equal places
	full := "2/2 00 01 10 11"
	wantIndicator(t, "16 atoms", fine("1 4 R0:00 R0:01 R0:10 R0:11 R0:02 R0:03 R0:12 R0:13 R0:20 R0:21 R0:30 R0:31 R0:22 R0:23 R0:32 R0:33"), template(t, full), [][]int64{{0}, {0}})
	wantIndicator(t, "17 atoms", wrong(impl.ErrLimit), template(t, full+"/1 0"), [][]int64{{0}, {0}})
	wantIndicator(t, "17 atoms", wrong(impl.ErrLimit), template(t, full), [][]int64{{0, 0}, {0, 0}})
	wantIndicator(t, "16 atoms", fine("1 2 R0:00 R0:01 R0:10 R0:11 R1:00 R1:01 R1:10 R1:11 R2:00 R2:01 R2:10 R2:11 R3:00 R3:01 R3:10 R3:11"), template(t, full+"/2 00 01 10 11/2 00 01 10 11/2 00 01 10 11"), [][]int64{{0}})
	wantIndicator(t, "17 atoms", wrong(impl.ErrLimit), template(t, "2/4 0000 0001 0010 0011 0100 0101 0110 0111 1000 1001 1010 1011 1100 1101 1110 1111/1 0"), [][]int64{{0}})
	x := template(t, "2/1 0 1/1 0 1")
	f, code := indicatorBy(x, [][]int64{{0}, {1}, {0}})
	same(t, "16 atoms of two relations", []int64{int64(len(f.Atoms)), code}, []int64{16, 0})
	wantIndicator(t, "16 atoms of two relations", fine(short(f)), x, [][]int64{{0}, {1}, {0}})
	wantIndicator(t, "17 atoms", wrong(impl.ErrLimit), template(t, "2/1 0 1/1 0 1/1 0"), [][]int64{{0}, {1}, {0}})
	// a formula is not searched for: the number of lists of tuples does not matter by itself
	for count := 1; count <= 3; count++ {
		wantIndicator(t, "very many atoms", wrong(impl.ErrLimit), largest(), slices.Repeat([][]int64{{0, 1, 2, 3}}, count))
	}
	full4 := impl.Rel{Arity: 4, Tuples: listsOf(2, 4)}
	wantIndicator(t, "very many atoms", wrong(impl.ErrLimit), impl.Template{Size: 2, Rels: []impl.Rel{full4, full4, full4, full4, full4, full4}}, [][]int64{{0}, {0}, {0}})
}
