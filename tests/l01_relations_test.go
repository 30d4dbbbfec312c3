package tests

import (
	"fmt"
	"math"
	"math/rand/v2"
	"slices"
	"testing"

	"loop.example/g01085/impl"
)

func TestExampleOfChapter1(t *testing.T) {
	r, code := impl.MakeRel(2, 2, [][]int64{{1, 0}, {0, 1}})
	same(t, "MakeRel", []any{r, code}, []any{impl.Rel{Arity: 2, Tuples: [][]int64{{0, 1}, {1, 0}}}, 0})
	composed, code := impl.ComposeRels(2, r, r)
	equal, code2 := impl.EqualRel(2)
	same(t, "ComposeRels", []any{composed, code, code2}, []any{equal, 0, 0})
	same(t, "EqualRel", equal, "{2 [[0 0] [1 1]]}")
	wantCall(t, "ProjectRel", []any{"{2 [[0 0] [1 1]]}", 0}, impl.ProjectRel, 2, r, []int64{0, 0})
	path := impl.Template{Size: 4, Rels: []impl.Rel{{Arity: 2, Tuples: [][]int64{{0, 1}, {1, 0}, {1, 2}, {2, 1}, {2, 3}, {3, 2}}}}}
	wantCall(t, "CoreOf", []any{"{2 [{2 [[0 1] [1 0]]}]}", "[0 1]", 0}, impl.CoreOf, path)
}

func TestCodes(t *testing.T) {
	names := []string{"ok", "invalid", "range", "limit", "state", "syntax", "notfound", "budget", "proof"}
	for code, name := range names {
		wantCall(t, "CodeName", []any{name}, impl.CodeName, code)
	}
	for _, code := range []int64{-1, 9, 10, 256, math.MaxInt64, math.MinInt64} {
		wantCall(t, "CodeName", []any{""}, impl.CodeName, code)
	}
	codes := []int64{impl.OK, impl.ErrInvalid, impl.ErrRange, impl.ErrLimit, impl.ErrState, impl.ErrSyntax, impl.ErrNotFound, impl.ErrBudget, impl.ErrProof}
	same(t, "codes", codes, []int64{0, 1, 2, 3, 4, 5, 6, 7, 8})
	same(t, "limits", []int64{impl.MaxSize, impl.MaxArity, impl.MaxRels, impl.MaxText}, []int64{4, 4, 6, 20000})
}

func TestValidRel(t *testing.T) {
	eachRel(func(size int64, r impl.Rel) {
		for other := int64(1); other <= 4; other++ {
			fits := true
			for _, tuple := range r.Tuples {
				fits = fits && slices.Max(tuple) < other
			}
			wantCall(t, "ValidRel", []any{fits}, impl.ValidRel, other, r)
		}
		for _, none := range noSizes {
			wantCall(t, "ValidRel", []any{false}, impl.ValidRel, none, r)
		}
	})
	for _, r := range badRels() {
		wantCall(t, "ValidRel", []any{false}, impl.ValidRel, 2, r)
	}
	wantCall(t, "ValidRel", []any{true}, impl.ValidRel, 1, impl.Rel{Arity: 1})
	wantCall(t, "ValidRel", []any{true}, impl.ValidRel, 1, impl.Rel{Arity: 4, Tuples: [][]int64{}})
	wantCall(t, "ValidRel", []any{false}, impl.ValidRel, 1, impl.Rel{})
}

func TestSameRel(t *testing.T) {
	rels := append(badRels(), someRels(2, 2)...)
	for i, r := range rels {
		for j, s := range rels {
			want := fmt.Sprint(r) == fmt.Sprint(s)
			if i == j && !want {
				t.Fatal("a relation is not like itself")
			}
			wantCall(t, "SameRel", []any{want}, impl.SameRel, r, s)
		}
		wantCall(t, "SameRel", []any{true}, impl.SameRel, r, roomy(r))
	}
	wantCall(t, "SameRel", []any{true}, impl.SameRel, impl.Rel{Arity: 1}, impl.Rel{Arity: 1, Tuples: [][]int64{}})
	wantCall(t, "SameRel", []any{true}, impl.SameRel, impl.Rel{Tuples: [][]int64{nil}}, impl.Rel{Tuples: [][]int64{{}}})
	wantCall(t, "SameRel", []any{false}, impl.SameRel, impl.Rel{Tuples: [][]int64{nil}}, impl.Rel{})
	wantCall(t, "SameRel", []any{false}, impl.SameRel, impl.Rel{Arity: 1}, impl.Rel{Arity: 2})
	wantCall(t, "SameRel", []any{false}, impl.SameRel, impl.Rel{Arity: 1, Tuples: [][]int64{{0}}}, impl.Rel{Arity: 1, Tuples: [][]int64{{0}, {1}}})
	wantCall(t, "SameRel", []any{false}, impl.SameRel, impl.Rel{Arity: 2, Tuples: [][]int64{{0, 1}}}, impl.Rel{Arity: 2, Tuples: [][]int64{{0}, {1}}})
	wantCall(t, "SameRel", []any{false}, impl.SameRel, impl.Rel{Arity: 2, Tuples: [][]int64{{0, 1}}}, impl.Rel{Arity: 2, Tuples: [][]int64{{0, 1, 0}}})
}

func TestMakeRelOrdersTuples(t *testing.T) {
	source := rand.New(rand.NewPCG(1, 1))
	eachRel(func(size int64, r impl.Rel) {
		mixed := append(slices.Clone(r.Tuples), r.Tuples...)
		source.Shuffle(len(mixed), func(i, j int) { mixed[i], mixed[j] = mixed[j], mixed[i] })
		wantCall(t, "MakeRel", []any{r, 0}, impl.MakeRel, size, r.Arity, roomy(impl.Rel{Tuples: mixed}).Tuples)
	})
	wantCall(t, "MakeRel", []any{"{3 []}", 0}, impl.MakeRel, 4, 3, nil)
	one := []int64{1, 0}
	wantCall(t, "MakeRel", []any{"{2 [[1 0]]}", 0}, impl.MakeRel, 2, 2, [][]int64{one, one, one})
}

func TestMakeRelErrors(t *testing.T) {
	for _, size := range noSizes {
		wantCode(t, "MakeRel", impl.ErrInvalid, impl.MakeRel, size, 2, nil)
		wantCode(t, "MakeRel", impl.ErrInvalid, impl.MakeRel, size, 0, [][]int64{{9}})
	}
	for _, arity := range noArities {
		wantCode(t, "MakeRel", impl.ErrRange, impl.MakeRel, 2, arity, nil)
		wantCode(t, "MakeRel", impl.ErrRange, impl.MakeRel, 2, arity, [][]int64{{0, 1}})
	}
	wantCode(t, "MakeRel", impl.ErrRange, impl.MakeRel, 2, 0, [][]int64{{}})
	wantCode(t, "MakeRel", impl.ErrRange, impl.MakeRel, 2, 5, [][]int64{{0, 0, 0, 0, 0}})
	for _, tuple := range [][]int64{nil, {}, {0}, {0, 1, 0}, {0, 2}, {2, 0}, {0, -1}, {-1, 0}, {0, math.MaxInt64}, {math.MinInt64, 0}} {
		wantCode(t, "MakeRel", impl.ErrRange, impl.MakeRel, 2, 2, [][]int64{tuple})
		wantCode(t, "MakeRel", impl.ErrRange, impl.MakeRel, 2, 2, [][]int64{{1, 1}, {0, 1}, tuple})
	}
}

func TestFullAndEqualRel(t *testing.T) {
	for size := int64(1); size <= 4; size++ {
		for arity := int64(1); arity <= 4; arity++ {
			wantCall(t, "FullRel", []any{impl.Rel{Arity: arity, Tuples: listsOf(size, arity)}, 0}, impl.FullRel, size, arity)
		}
		for _, arity := range noArities {
			wantCode(t, "FullRel", impl.ErrRange, impl.FullRel, size, arity)
		}
		equal := relWhere(size, 2, func(tuple []int64) bool { return tuple[0] == tuple[1] })
		wantCall(t, "EqualRel", []any{equal, 0}, impl.EqualRel, size)
	}
	for _, size := range noSizes {
		wantCode(t, "FullRel", impl.ErrInvalid, impl.FullRel, size, 2)
		wantCode(t, "FullRel", impl.ErrInvalid, impl.FullRel, size, 0)
		wantCode(t, "EqualRel", impl.ErrInvalid, impl.EqualRel, size)
	}
}

func TestHasTuple(t *testing.T) {
	eachRel(func(size int64, r impl.Rel) {
		set := setOf(r)
		for _, tuple := range listsOf(size, r.Arity) {
			has, code := impl.HasTuple(size, r, tuple)
			if has != set[keyOf(tuple)] || code != impl.OK {
				t.Errorf("HasTuple of %v and %v: %v %d", r, tuple, has, code)
			}
		}
	})
	full := relWhere(2, 2, func([]int64) bool { return true })
	wantCall(t, "HasTuple", []any{true, 0}, impl.HasTuple, 2, roomy(full), roomyList(1, 0))
	for _, tuple := range [][]int64{nil, {}, {0}, {0, 0, 0}, {0, 1, 0, 1}, {0, 0, 0, 0, 0}, {0, 2}, {-1, 0}, {1, -1}, {0, math.MaxInt64}, {math.MinInt64, 1}} {
		wantCall(t, "HasTuple", []any{false, 0}, impl.HasTuple, 2, full, tuple)
	}
}

func TestOppositesMeetsAndJoins(t *testing.T) {
	for size := int64(1); size <= 4; size++ {
		for arity := int64(1); arity <= 4; arity++ {
			rels := someRels(size, arity)
			for _, r := range rels {
				inR := setOf(r)
				other := relWhere(size, arity, func(tuple []int64) bool { return !inR[keyOf(tuple)] })
				wantCall(t, "OppositeRel", []any{other, 0}, impl.OppositeRel, size, roomy(r))
				wantCall(t, "OppositeRel", []any{r, 0}, impl.OppositeRel, size, other)
				for _, s := range rels {
					checkPairOfRels(t, size, roomy(r), roomy(s))
				}
			}
		}
	}
}

func checkPairOfRels(t *testing.T, size int64, r, s impl.Rel) {
	t.Helper()
	inR, inS := setOf(r), setOf(s)
	both := relWhere(size, r.Arity, func(tuple []int64) bool { return inR[keyOf(tuple)] && inS[keyOf(tuple)] })
	either := relWhere(size, r.Arity, func(tuple []int64) bool { return inR[keyOf(tuple)] || inS[keyOf(tuple)] })
	wantCall(t, "MeetRels", []any{both, 0}, impl.MeetRels, size, r, s)
	wantCall(t, "JoinRels", []any{either, 0}, impl.JoinRels, size, r, s)
	wantCall(t, "IsPartOf", []any{len(both.Tuples) == len(r.Tuples), 0}, impl.IsPartOf, size, r, s)
	oppositeR, _ := impl.OppositeRel(size, r)
	oppositeS, _ := impl.OppositeRel(size, s)
	oppositeJoin, _ := impl.JoinRels(size, oppositeR, oppositeS)
	wantCall(t, "OppositeRel of MeetRels", []any{oppositeJoin, 0}, impl.OppositeRel, size, both)
}

func TestPairRels(t *testing.T) {
	for size := int64(1); size <= 4; size++ {
		for front := int64(1); front <= 4; front++ {
			for back := int64(1); back <= 4; back++ {
				for _, r := range someRels(size, front) {
					for _, s := range someRels(size, back) {
						checkPair(t, size, r, s)
					}
				}
			}
		}
	}
}

func checkPair(t *testing.T, size int64, r, s impl.Rel) {
	t.Helper()
	if r.Arity+s.Arity > 4 {
		wantCode(t, "PairRels", impl.ErrRange, impl.PairRels, size, r, s)
		return
	}
	want := impl.Rel{Arity: r.Arity + s.Arity}
	for _, front := range r.Tuples {
		for _, back := range s.Tuples {
			want.Tuples = append(want.Tuples, append(slices.Clone(front), back...))
		}
	}
	wantCall(t, "PairRels", []any{want, 0}, impl.PairRels, size, roomy(r), roomy(s))
}

func TestPlaceRel(t *testing.T) {
	eachRel(func(size int64, r impl.Rel) {
		set := setOf(r)
		for arity := int64(1); arity <= 4; arity++ {
			for _, places := range listsOf(arity, r.Arity) {
				want := relWhere(size, arity, func(tuple []int64) bool { return set[keyOf(at(tuple, places))] })
				got, code := impl.PlaceRel(size, r, arity, places)
				same(t, fmt.Sprint("PlaceRel of ", size, r, arity, places), []any{got, code}, []any{want, 0})
			}
		}
	})
	less := impl.Rel{Arity: 2, Tuples: [][]int64{{0, 1}}}
	wantCall(t, "PlaceRel", []any{"{3 [[1 0 0] [1 1 0]]}", 0}, impl.PlaceRel, 2, roomy(less), 3, roomyList(2, 0))
	wantCall(t, "PlaceRel", []any{"{1 []}", 0}, impl.PlaceRel, 2, less, 1, []int64{0, 0})
	wantCall(t, "PlaceRel", []any{"{2 [[0 0] [0 1]]}", 0}, impl.PlaceRel, 2, impl.Rel{Arity: 2, Tuples: [][]int64{{0, 0}, {0, 1}}}, 2, []int64{0, 0})
}

func TestPlacedIsProjectedAgain(t *testing.T) {
	eachRel(func(size int64, r impl.Rel) {
		for arity := int64(1); arity <= 4; arity++ {
			for _, places := range listsOf(arity, r.Arity) {
				var left impl.Rel
				for _, tuple := range r.Tuples {
					if fits(tuple, places) {
						left.Tuples = append(left.Tuples, tuple)
					}
				}
				placed, _ := impl.PlaceRel(size, r, arity, places)
				got, code := impl.ProjectRel(size, placed, places)
				same(t, fmt.Sprint("projection of ", r, " placed at ", places), []any{got.Arity, got.Tuples, code}, []any{r.Arity, left.Tuples, 0})
			}
		}
	})
}

// fits reports whether a tuple has equal values where places are equal.
func fits(tuple, places []int64) bool {
	for i := range places {
		if tuple[slices.Index(places, places[i])] != tuple[i] {
			return false
		}
	}
	return true
}

func TestProjectRel(t *testing.T) {
	eachRel(func(size int64, r impl.Rel) {
		for length := int64(1); length <= 4; length++ {
			for _, places := range listsOf(r.Arity, length) {
				set := map[tupleKey]bool{}
				for _, tuple := range r.Tuples {
					set[keyOf(at(tuple, places))] = true
				}
				want := relWhere(size, length, func(tuple []int64) bool { return set[keyOf(tuple)] })
				got, code := impl.ProjectRel(size, r, places)
				same(t, fmt.Sprint("ProjectRel of ", size, r, places), []any{got, code}, []any{want, 0})
			}
		}
	})
	wantCall(t, "ProjectRel", []any{"{3 [[0 1 0] [1 0 1]]}", 0}, impl.ProjectRel, 2, roomy(impl.Rel{Arity: 2, Tuples: [][]int64{{0, 1}, {1, 0}}}), roomyList(1, 0, 1))
}

func TestFixPlace(t *testing.T) {
	eachRel(func(size int64, r impl.Rel) {
		set := setOf(r)
		for place := range r.Arity {
			for value := range size {
				want := relWhere(size, r.Arity, func(tuple []int64) bool { return set[keyOf(tuple)] && tuple[place] == value })
				wantCall(t, "FixPlace", []any{want, 0}, impl.FixPlace, size, roomy(r), place, value)
			}
			for _, value := range append(farAway, size) {
				wantCode(t, "FixPlace", impl.ErrRange, impl.FixPlace, size, r, place, value)
			}
		}
		for _, place := range append(farAway, r.Arity) {
			wantCode(t, "FixPlace", impl.ErrRange, impl.FixPlace, size, r, place, 0)
		}
	})
}

func TestComposeRels(t *testing.T) {
	for size := int64(1); size <= 4; size++ {
		equal, _ := impl.EqualRel(size)
		for _, r := range someRels(size, 2) {
			wantCall(t, "ComposeRels", []any{r, 0}, impl.ComposeRels, size, r, equal)
			wantCall(t, "ComposeRels", []any{r, 0}, impl.ComposeRels, size, equal, r)
			for _, s := range someRels(size, 2) {
				inR, inS := setOf(r), setOf(s)
				want := relWhere(size, 2, func(tuple []int64) bool {
					for b := range size {
						if inR[keyOf([]int64{tuple[0], b})] && inS[keyOf([]int64{b, tuple[1]})] {
							return true
						}
					}
					return false
				})
				wantCall(t, "ComposeRels", []any{want, 0}, impl.ComposeRels, size, roomy(r), roomy(s))
			}
		}
	}
}

func TestMapRel(t *testing.T) {
	source := rand.New(rand.NewPCG(2, 3))
	eachRel(func(size int64, r impl.Rel) {
		for next := int64(1); next <= 4; next++ {
			lists := listsOf(next, size)
			for range min(len(lists), 6) {
				to := lists[source.IntN(len(lists))]
				set := map[tupleKey]bool{}
				for _, tuple := range r.Tuples {
					set[keyOf(at(to, tuple))] = true
				}
				want := relWhere(next, r.Arity, func(tuple []int64) bool { return set[keyOf(tuple)] })
				wantCall(t, "MapRel", []any{want, 0}, impl.MapRel, size, roomy(r), roomyList(to...), next)
			}
		}
	})
}

func TestRangesOfPlacesAndValues(t *testing.T) {
	r := impl.Rel{Arity: 2, Tuples: [][]int64{{0, 1}, {1, 0}}}
	for _, arity := range noArities {
		wantCode(t, "PlaceRel", impl.ErrRange, impl.PlaceRel, 2, r, arity, []int64{0, 0})
	}
	for _, places := range [][]int64{nil, {}, {0}, {0, 1, 2}, {0, 1, 1, 0}, {0, 3}, {3, 0}, {-1, 0}, {0, -1}, {0, math.MaxInt64}, {math.MinInt64, 0}} {
		wantCode(t, "PlaceRel", impl.ErrRange, impl.PlaceRel, 2, r, 3, places)
	}
	for _, places := range [][]int64{nil, {}, {0, 0, 0, 0, 0}, {2}, {0, 2}, {-1}, {0, 1, -1}, {math.MaxInt64}, {math.MinInt64, 0}} {
		wantCode(t, "ProjectRel", impl.ErrRange, impl.ProjectRel, 2, r, places)
	}
	for _, next := range noSizes {
		wantCode(t, "MapRel", impl.ErrRange, impl.MapRel, 2, r, []int64{0, 0}, next)
	}
	for _, to := range [][]int64{nil, {}, {0}, {0, 1, 2}, {0, 3}, {3, 0}, {-1, 0}, {0, math.MaxInt64}, {math.MinInt64, 0}} {
		wantCode(t, "MapRel", impl.ErrRange, impl.MapRel, 2, r, to, 3)
	}
	for arity := int64(1); arity <= 4; arity++ {
		if arity == 2 {
			continue
		}
		s := impl.Rel{Arity: arity}
		wantCode(t, "ComposeRels", impl.ErrRange, impl.ComposeRels, 2, r, s)
		wantCode(t, "ComposeRels", impl.ErrRange, impl.ComposeRels, 2, s, r)
		wantCode(t, "ComposeRels", impl.ErrRange, impl.ComposeRels, 2, s, s)
		for _, f := range []any{impl.MeetRels, impl.JoinRels, impl.IsPartOf} {
			wantCode(t, "another arity", impl.ErrRange, f, 2, r, s)
			wantCode(t, "another arity", impl.ErrRange, f, 2, s, r)
		}
	}
}

// invalidCalls checks that every function of relations tells ErrInvalid, ahead
// of all other errors, for a size and a relation that do not go together.
func invalidCalls(t *testing.T, size int64, bad, other impl.Rel) {
	t.Helper()
	wantCode(t, "HasTuple", impl.ErrInvalid, impl.HasTuple, size, bad, []int64{0, 1})
	wantCode(t, "HasTuple", impl.ErrInvalid, impl.HasTuple, size, bad, nil)
	wantCode(t, "OppositeRel", impl.ErrInvalid, impl.OppositeRel, size, bad)
	for _, f := range []any{impl.MeetRels, impl.JoinRels, impl.PairRels, impl.ComposeRels, impl.IsPartOf} {
		wantCode(t, "first relation", impl.ErrInvalid, f, size, bad, other)
		wantCode(t, "second relation", impl.ErrInvalid, f, size, other, bad)
		wantCode(t, "both relations", impl.ErrInvalid, f, size, bad, bad)
	}
	wantCode(t, "PlaceRel", impl.ErrInvalid, impl.PlaceRel, size, bad, 2, []int64{0, 1})
	wantCode(t, "PlaceRel", impl.ErrInvalid, impl.PlaceRel, size, bad, 0, nil)
	wantCode(t, "ProjectRel", impl.ErrInvalid, impl.ProjectRel, size, bad, []int64{0})
	wantCode(t, "ProjectRel", impl.ErrInvalid, impl.ProjectRel, size, bad, nil)
	wantCode(t, "FixPlace", impl.ErrInvalid, impl.FixPlace, size, bad, 0, 0)
	wantCode(t, "FixPlace", impl.ErrInvalid, impl.FixPlace, size, bad, -1, -1)
	wantCode(t, "MapRel", impl.ErrInvalid, impl.MapRel, size, bad, []int64{0, 0}, 2)
	wantCode(t, "MapRel", impl.ErrInvalid, impl.MapRel, size, bad, nil, 0)
}

func TestInvalidRelations(t *testing.T) {
	for _, bad := range badRels() {
		for arity := int64(1); arity <= 4; arity++ {
			invalidCalls(t, 2, bad, impl.Rel{Arity: arity})
		}
	}
	good := impl.Rel{Arity: 2, Tuples: [][]int64{{0, 0}}}
	for _, size := range noSizes {
		invalidCalls(t, size, good, good)
		invalidCalls(t, size, impl.Rel{}, good)
	}
	invalidCalls(t, 3, impl.Rel{Arity: 1, Tuples: [][]int64{{3}}}, good)
	wantCode(t, "OppositeRel", impl.OK, impl.OppositeRel, 4, impl.Rel{Arity: 1, Tuples: [][]int64{{3}}})
}

func TestLargeArguments(t *testing.T) {
	tuples := make([][]int64, 300000)
	for i := range tuples {
		tuples[i] = []int64{int64(i) % 4, int64(i) / 4 % 4}
	}
	r, code := impl.MakeRel(4, 2, tuples)
	full, _ := impl.FullRel(4, 2)
	same(t, "MakeRel", []any{r, code}, []any{full, 0})
	same(t, "ValidRel", impl.ValidRel(4, impl.Rel{Arity: 2, Tuples: tuples}), false)
	same(t, "SameRel", impl.SameRel(impl.Rel{Tuples: tuples}, impl.Rel{Tuples: slices.Clone(tuples)}), true)
	long := make([]int64, 900000)
	wantCode(t, "ProjectRel", impl.ErrRange, impl.ProjectRel, 4, full, long)
	wantCode(t, "PlaceRel", impl.ErrRange, impl.PlaceRel, 4, full, 4, long)
	wantCode(t, "MapRel", impl.ErrRange, impl.MapRel, 4, full, long, 4)
	wantCall(t, "HasTuple", []any{false, 0}, impl.HasTuple, 4, full, long)
	wantCall(t, "ValidTemplate", []any{false}, impl.ValidTemplate, impl.Template{Size: 2, Rels: make([]impl.Rel, 100000)})
}
