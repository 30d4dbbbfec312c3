package tests

import (
	"fmt"
	"math"
	"math/rand/v2"
	"slices"
	"testing"

	"loop.example/g01085/impl"
)

// foundBy returns the first polymorphism of a kind, by the definition, and the
// code of the search.
func foundBy(x impl.Template, arity, kind int64) (impl.Op, int64) {
	if listCount(x, arity) > impl.MaxLists {
		return impl.Op{}, impl.ErrLimit
	}
	s := searchBy(x, arity, nil, 0)
	for _, w := range s.found {
		if isKind(x.Size, w.op, kind) {
			return w.op, impl.OK
		}
	}
	if s.steps > s.limit {
		return impl.Op{}, impl.ErrBudget
	}
	return impl.Op{}, impl.ErrNotFound
}

// isEmpty reports whether a relation has no tuples.
func isEmpty(r impl.Rel) bool { return len(r.Tuples) == 0 }

// solverBy returns the way and the operation that SolverFor has to return, by the
// definition, and the codes with which the searches end that come before.
func solverBy(x impl.Template) (int64, impl.Op, [2]int64) {
	var codes [2]int64
	for value := range x.Size {
		f := impl.Op{Arity: 1, Table: slices.Repeat([]int64{value}, int(x.Size))}
		if !slices.ContainsFunc(x.Rels, isEmpty) && isPolymorphismBy(x, f) {
			return impl.SvConstant, f, codes
		}
	}
	f, code := foundBy(x, 2, impl.KdSemilattice)
	if codes[0] = code; code == impl.OK {
		return impl.SvSemilattice, f, codes
	}
	f, code = foundBy(x, 3, impl.KdMajority)
	if codes[1] = code; code == impl.OK {
		return impl.SvMajority, f, codes
	}
	isNot := func(r impl.Rel) bool { return !isAffineBy(x.Size, r) }
	if (x.Size == 2 || x.Size == 3) && !slices.ContainsFunc(x.Rels, isNot) {
		return impl.SvEquations, affine(x.Size), codes
	}
	return 0, impl.Op{}, codes
}

// verdictBy returns the verdict of a way, by the definition.
func verdictBy(x impl.Template, y impl.Instance, way int64, f impl.Op) (impl.Verdict, int64) {
	switch way {
	case impl.SvConstant:
		return impl.Verdict{Values: slices.Repeat(f.Table[:1], int(y.Vars))}, impl.OK
	case impl.SvSemilattice:
		return arcsVerdictBy(x, y, func(values []int64) int64 { return foldBy(x.Size, f, values) }), impl.OK
	case impl.SvMajority:
		return pairsVerdictBy(x, y), impl.OK
	case impl.SvEquations:
		return equationsVerdictBy(x, y)
	}
	return impl.Verdict{}, impl.ErrNotFound
}

// checkSolver compares the way for a template with the definition. It returns the
// way, and the codes of the searches.
func checkSolver(t *testing.T, x impl.Template) (int64, [2]int64) {
	t.Helper()
	way, f, codes := solverBy(x)
	if way == 0 {
		wantCode(t, "SolverFor", impl.ErrNotFound, impl.SolverFor, roomyTemplate(x))
		return way, codes
	}
	wantCall(t, "SolverFor", []any{way, f, 0}, impl.SolverFor, roomyTemplate(x))
	return way, codes
}

// checkSolveWith compares the verdict of the way for a template with the
// definition.
func checkSolveWith(t *testing.T, x impl.Template, y impl.Instance) {
	t.Helper()
	way, f, _ := impl.SolverFor(x)
	v, code := verdictBy(x, y, way, f)
	if code != impl.OK {
		wantCode(t, "SolveWith", code, impl.SolveWith, roomyTemplate(x), roomyInstance(y))
		return
	}
	wantCall(t, "SolveWith", []any{way, v, 0}, impl.SolveWith, roomyTemplate(x), roomyInstance(y))
	checkSolved(t, x, y, v)
}

// waysTemplates returns templates for which there are ways of all kinds.
func waysTemplates(seed uint64) []impl.Template {
	source := rand.New(rand.NewPCG(seed, 6))
	list := append(someTemplates(), mixed(), example(), swap(), order(), round())
	for size := int64(2); size <= 4; size++ {
		list = append(list, closedTemplates(seed+1, size, 6, semilattices(size)[source.IntN(3)])...)
		list = append(list, closedTemplates(seed+2, size, 6, majorities(size)[source.IntN(3)])...)
	}
	for _, x := range affineTemplates(seed+3, 15) {
		all := listsOf(x.Size, 3)
		odd := impl.Rel{Arity: 3, Tuples: slices.DeleteFunc(all, func(v []int64) bool { return (v[0]+v[1]+v[2])%x.Size != 1 })}
		list = append(list, impl.Template{Size: x.Size, Rels: append(x.Rels, odd)})
	}
	return slices.DeleteFunc(list, func(x impl.Template) bool {
		return slices.ContainsFunc(x.Rels, func(r impl.Rel) bool { return len(r.Tuples) > 60 }) // too slow by the definition
	})
}

func TestSolversByDefinition(t *testing.T) {
	source := rand.New(rand.NewPCG(10, 6))
	ways := map[int64]int{}
	codes := map[[2]int64]int{}
	for _, x := range waysTemplates(30) {
		way, ended := checkSolver(t, x)
		ways[way]++
		codes[ended]++
		for range 3 {
			checkSolveWith(t, x, randomInstance(source, x, 1+source.Int64N(5), source.IntN(6)))
		}
	}
	for way := range int64(5) {
		if ways[way] < 10 {
			t.Errorf("too few templates: %v", ways)
		}
	}
	// searches that end with ErrLimit and ErrBudget
	if codes[[2]int64{6, 3}] < 3 || codes[[2]int64{6, 7}] < 3 || codes[[2]int64{7, 7}] < 3 {
		t.Errorf("too few searches: %v", codes)
	}
}

func TestWhichWayComesFirst(t *testing.T) {
	minority := "{3 [0 1 1 0 1 0 0 1]}"
	for _, c := range []struct {
		t    string
		way  int64
		want string
	}{
		// templates without relations, and the least of several constants
		{"1", 1, "{1 [0]}"}, {"2", 1, "{1 [0 0]}"}, {"4", 1, "{1 [0 0 0 0]}"}, {"2/2 00 01 11", 1, "{1 [0 0]}"}, {"2/1 1", 1, "{1 [1 1]}"}, {"4/2 22 33/1 2 3", 1, "{1 [2 2 2 2]}"}, {"4/2 33", 1, "{1 [3 3 3 3]}"}, {"3/1 0 1 2/3 111 222", 1, "{1 [1 1 1]}"},
		// a constant ahead of a semilattice, a majority and equations, too
		{"2/1 0", 1, "{1 [0 0]}"}, {"2/2 00 11", 1, "{1 [0 0]}"}, {"2/3 001 010 100 111", 1, "{1 [1 1]}"},
		// a semilattice ahead of a majority and equations
		{"2/1 0/1 1", 2, "{2 [0 0 0 1]}"}, {"2/2 00 01 11/1 0/1 1", 2, "{2 [0 0 0 1]}"}, {"2/2 01 10 11/1 0", 2, "{2 [0 1 1 1]}"}, {"2/2 01", 2, "{2 [0 0 0 1]}"}, {"3/1 0/1 1/1 2", 2, "{2 [0 0 0 0 1 0 0 0 2]}"},
		// a majority ahead of equations
		{"2/2 01 10", 3, "{3 [0 0 0 1 0 1 1 1]}"}, {"2/2 01 10/1 1", 3, "{3 [0 0 0 1 0 1 1 1]}"}, {"2/2 01 10/2 00 01 11", 3, "{3 [0 0 0 1 0 1 1 1]}"},
		{"2/3 001 010 100 111/1 0", 4, minority}, {"2/3 000 011 101 110/1 1", 4, minority},
		{"3/3 001 010 022 100 112 121 202 211 220", 4, fmt.Sprint(affine(3))},
		// none of them
		{"3/2 01 02 10 12 20 21", 0, "{0 []}"}, {"2/3 001 010 100", 0, "{0 []}"}, {"2/3 001 010 011 100 101 110", 0, "{0 []}"},
		// relations without tuples: no constant, and no equations
		{"2/1", 2, "{2 [0 0 0 1]}"}, {"1/4", 2, "{2 [0]}"}, {"2/2 00/1", 2, "{2 [0 0 0 1]}"}, {"2/1/2 01 10 11", 2, "{2 [0 1 1 1]}"}, {"2/2 01 10/1", 3, "{3 [0 0 0 1 0 1 1 1]}"}, {"2/3 001 010 100 111/1 0/1", 0, "{0 []}"}, {"2/3/3 001 010 100 111/1 0", 0, "{0 []}"}, {"2/3 001 010 100 111/1", 0, "{0 []}"},
	} {
		x := template(t, c.t)
		code := int64(impl.OK)
		if c.way == 0 {
			code = impl.ErrNotFound
		}
		wantCall(t, "SolverFor", []any{c.way, c.want, code}, impl.SolverFor, x)
		checkSolver(t, x)
		checkSolveWith(t, x, instance("1"))
		checkSolveWith(t, x, instance("3"))
		for rel, r := range x.Rels {
			checkSolveWith(t, x, impl.Instance{Vars: 4, Cons: []impl.Con{{Rel: int64(rel), Scope: []int64{0, 1, 2, 3}[:r.Arity]}}})
			checkSolveWith(t, x, impl.Instance{Vars: 4, Cons: []impl.Con{{Rel: int64(rel), Scope: []int64{3, 2, 3, 1}[:r.Arity]}}})
		}
	}
}

func TestSearchesThatEndWithErrors(t *testing.T) {
	all := impl.Rel{Arity: 4, Tuples: listsOf(2, 4)}
	odd := impl.Rel{Arity: 4, Tuples: slices.DeleteFunc(listsOf(3, 4), func(v []int64) bool { return (v[0]+v[1]+v[2])%3 != 1 })}
	withAll := func(short string) impl.Template {
		x := template(t, short)
		return impl.Template{Size: x.Size, Rels: append(x.Rels, all)}
	}
	for _, c := range []struct {
		x     impl.Template
		way   int64
		codes [2]int64
	}{
		// another way is looked for
		{template(t, "3/3 200/3 021 122 220/4 0210/1 0"), impl.SvEquations, [2]int64{impl.ErrBudget, impl.ErrBudget}},
		{template(t, "3/3 021 112 200"), impl.SvEquations, [2]int64{impl.ErrNotFound, impl.ErrBudget}},
		{withAll("2/3 000 011 101 110/1 0/1 1"), impl.SvEquations, [2]int64{impl.ErrNotFound, impl.ErrLimit}},
		{impl.Template{Size: 3, Rels: []impl.Rel{odd, odd, odd, odd, odd, odd}}, impl.SvEquations, [2]int64{impl.ErrLimit, impl.ErrLimit}},
		// also if there is a majority, which is not found
		{withAll("2/2 01 10"), impl.SvEquations, [2]int64{impl.ErrNotFound, impl.ErrLimit}},
		// there is none: not affine, or of another size
		{withAll("2/2 01 10/2 01 10 11"), 0, [2]int64{impl.ErrNotFound, impl.ErrLimit}},
		{template(t, "3/2 12 20 21"), 0, [2]int64{impl.ErrBudget, impl.ErrBudget}},
		{template(t, "4/3 302/2 00 11 33"), 0, [2]int64{impl.ErrBudget, impl.ErrBudget}},
		{template(t, "4/1"), 0, [2]int64{impl.ErrBudget, impl.ErrBudget}},
	} {
		way, codes := checkSolver(t, c.x)
		same(t, "SolverFor", []any{way, codes}, []any{c.way, c.codes})
		checkSolveWith(t, c.x, instance("5"))
		scope := []int64{0, 1, 4, 3}[:c.x.Rels[0].Arity]
		checkSolveWith(t, c.x, impl.Instance{Vars: 5, Cons: []impl.Con{{Rel: 0, Scope: scope}}})
		checkSolveWith(t, c.x, impl.Instance{Vars: 1, Cons: []impl.Con{{Rel: 0, Scope: make([]int64, len(scope))}}})
	}
	// there is a semilattice and a majority, but too many lists for both
	singles := template(t, "3/1 0/1 1/1 2")
	singles.Rels = append(singles.Rels, impl.Rel{Arity: 4, Tuples: listsOf(3, 4)})
	wantCall(t, "SolverFor", []any{impl.SvEquations, affine(3), 0}, impl.SolverFor, singles)
	wantCall(t, "SolveWith", []any{impl.SvEquations, "{0 [0 2] [] [] []}", 0}, impl.SolveWith, singles, instance("2 2:1 3:0101"))
	wantCall(t, "SolveWith", []any{impl.SvEquations, "{3 [] [] [] [2 1]}", 0}, impl.SolveWith, singles, instance("1 0:0 1:0"))
}

func TestSolveWith(t *testing.T) {
	x := template(t, "2/3 001 010 100 111/1 0/4 0110")
	for _, c := range []struct {
		t           impl.Template
		short, want string
		way, code   int64
	}{
		{order(), "3 0:01 0:12", "{0 [0 0 0] [] [] []}", impl.SvConstant, 0},
		{template(t, "2/1 1/2 00 11"), "2 0:1 1:01", "{0 [1 1] [] [] []}", impl.SvConstant, 0},
		{template(t, "2/2 00 01 11/1 1/1 0"), "3 0:01 1:0", "{0 [1 1 0] [] [] []}", impl.SvSemilattice, 0},
		{template(t, "2/2 00 01 11/1 1/1 0"), "2 1:0 2:1 0:01", "{1 [] [{0 0 0} {1 1 1} {0 1 2} {1 0 2}] [] []}", impl.SvSemilattice, 0},
		{swap(), "3 0:01 0:12", "{0 [0 1 0] [] [] []}", impl.SvMajority, 0}, {swap(), "1", "{0 [0] [] [] []}", impl.SvMajority, 0}, {swap(), "1 0:00", "{1 [] [{0 0 0} {0 1 0}] [] []}", impl.SvMajority, 0}, {swap(), "2 0:11", "{2 [] [] [] []}", impl.SvMajority, 0},
		{x, "3 0:012 1:0", "{0 [0 1 0] [] [] []}", impl.SvEquations, 0}, {x, "1 0:000 1:0", "{3 [] [] [] [1 1]}", impl.SvEquations, 0},
		// exactly MaxEquations equations, and more
		{x, "4" + repeated(" 2:0123", 6), "{0 [0 1 1 0] [] [] []}", impl.SvEquations, 0}, {x, "4" + repeated(" 2:0123", 6) + " 1:0", "", 0, impl.ErrLimit}, {x, "4" + repeated(" 2:0123", 7), "", 0, impl.ErrLimit}, {x, "4" + repeated(" 2:0123", 24), "", 0, impl.ErrLimit},
		// there is no way, whatever the instance is
		{template(t, "2/3 001 010 100"), "3", "", 0, impl.ErrNotFound}, {template(t, "2/3 001 010 100"), "3 0:012", "", 0, impl.ErrNotFound}, {template(t, "2/3 001 010 100/4 0000"), "4" + repeated(" 1:0123", 7), "", 0, impl.ErrNotFound},
	} {
		if c.code != impl.OK {
			wantCode(t, "SolveWith", c.code, impl.SolveWith, c.t, instance(c.short))
			continue
		}
		wantCall(t, "SolveWith", []any{c.way, c.want, 0}, impl.SolveWith, c.t, instance(c.short))
		checkSolveWith(t, c.t, instance(c.short))
	}
}

// allVerdicts returns the verdicts of all ways on an instance that there are, with
// some operations.
func allVerdicts(x impl.Template, y impl.Instance) []impl.Verdict {
	var list []impl.Verdict
	add := func(v impl.Verdict, code int64) {
		if code == impl.OK {
			list = append(list, v)
		}
	}
	for value := range x.Size {
		add(impl.SolveByConstant(x, y, value))
	}
	for _, f := range append(semilattices(x.Size), diamond()) {
		add(impl.SolveBySemilattice(x, y, f))
	}
	for _, f := range majorities(x.Size) {
		add(impl.SolveByMajority(x, y, f))
	}
	add(impl.SolveByEquations(x, y))
	return list
}

func TestAllWaysAgree(t *testing.T) {
	source := rand.New(rand.NewPCG(11, 6))
	several := map[int64]int{}
	check := func(x impl.Template, y impl.Instance) {
		list := allVerdicts(x, y)
		if _, v, code := impl.SolveWith(x, y); code == impl.OK {
			list = append(list, v)
		}
		kinds := map[int64]bool{}
		for _, v := range list {
			checkSolved(t, x, y, v)
			kinds[v.Kind] = true
			same(t, "agreement on "+shortOf(y), v.Kind == impl.VkSolution, list[0].Kind == impl.VkSolution)
		}
		if len(kinds) > 1 {
			several[int64(len(kinds))]++
		}
	}
	for seed, ops := range [][]impl.Op{
		{semilattices(2)[0], majorities(2)[0]}, {majorities(2)[0], affine(2)}, {semilattices(2)[1], affine(2)}, {semilattices(2)[0], semilattices(2)[1]}, {semilattices(2)[0], majorities(2)[0], affine(2)},
		{semilattices(3)[0], majorities(3)[0]}, {majorities(3)[1], affine(3)}, {semilattices(3)[2], majorities(3)[2]}, {semilattices(3)[1], affine(3)},
		{semilattices(4)[0], semilattices(4)[1], majorities(4)[0]}, {diamond(), majorities(4)[2]},
	} {
		size := int64(2)
		for !impl.ValidOp(size, ops[0]) {
			size++
		}
		for _, x := range closedTemplates(uint64(50+seed), size, 10, ops...) {
			for range 4 {
				check(x, randomInstance(source, x, 1+source.Int64N(4), source.IntN(7)))
			}
		}
	}
	if several[2] < 50 || several[3] < 5 {
		t.Errorf("too few instances without solutions for several ways: %v", several)
	}
}

// invalidSolverCalls calls all functions with a template, an instance or an
// operation that is not valid, and with arguments that would have other errors,
// too.
func invalidSolverCalls(t *testing.T, x impl.Template, y impl.Instance, f impl.Op) {
	t.Helper()
	wantCode(t, "SolveBySemilattice", impl.ErrInvalid, impl.SolveBySemilattice, x, y, f)
	wantCode(t, "SolveByMajority", impl.ErrInvalid, impl.SolveByMajority, x, y, f)
}

// invalidSolvedCalls does the same for the functions without an operation.
func invalidSolvedCalls(t *testing.T, x impl.Template, y impl.Instance) {
	t.Helper()
	for _, f := range []impl.Op{leastOf, majorities(2)[0], affine(2), diamond(), {Arity: 1, Table: []int64{0, 1}}, {}} {
		invalidSolverCalls(t, x, y, f)
	}
	for _, value := range []int64{-1, 0, 1, 2, 4, math.MaxInt64} {
		wantCode(t, "SolveByConstant", impl.ErrInvalid, impl.SolveByConstant, x, y, value)
	}
	wantCode(t, "SystemOf", impl.ErrInvalid, impl.SystemOf, x, y)
	wantCode(t, "SolveByEquations", impl.ErrInvalid, impl.SolveByEquations, x, y)
	wantCode(t, "SolveWith", impl.ErrInvalid, impl.SolveWith, x, y)
	for _, v := range []impl.Verdict{{}, {Values: []int64{0}}, {Kind: 1}, {Kind: 2}, {Kind: 3}, {Kind: 4}, {Kind: -1, Values: []int64{9}}} {
		wantCode(t, "IsVerdict", impl.ErrInvalid, impl.IsVerdict, x, y, v)
	}
	full := impl.Rel{Arity: 2, Tuples: listsOf(2, 2)}
	for _, pairs := range [][]impl.Rel{nil, {full}, {{Arity: 2}}, {{Arity: 1}}, {full, full, full}} {
		wantCode(t, "GreedyValues", impl.ErrInvalid, impl.GreedyValues, x, y, pairs)
	}
}

func TestInvalidArgumentsOfSolvers(t *testing.T) {
	for _, bad := range badInstances() {
		invalidSolvedCalls(t, mixed(), bad)
	}
	for _, bad := range badTemplates() {
		for _, short := range []string{"1", "2 0:01", "3 0:01 1:2", "3 0:012"} {
			invalidSolvedCalls(t, bad, instance(short))
		}
		wantCode(t, "SolverFor", impl.ErrInvalid, impl.SolverFor, bad)
	}
	// a template for which there is no way, and one for which there are too many equations
	none := template(t, "2/3 001 010 100/4 0110")
	invalidSolvedCalls(t, none, instance("2 0:01"))
	invalidSolvedCalls(t, none, instance("4"+repeated(" 1:0123", 25)))
	for _, f := range badOps() {
		invalidSolverCalls(t, order(), instance("2 0:01"), f)
		invalidSolverCalls(t, none, instance("1"), f)
	}
	// operations of another size
	for size := int64(1); size <= 4; size++ {
		x := impl.Template{Size: size}
		for other := int64(1); other <= 4; other++ {
			for _, f := range append(semilattices(other), majorities(other)...) {
				if other != size {
					invalidSolverCalls(t, x, instance("2"), f)
				}
			}
		}
	}
}
