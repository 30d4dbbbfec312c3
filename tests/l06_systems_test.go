package tests

import (
	"math/rand/v2"
	"slices"
	"testing"

	"loop.example/g01085/impl"
)

// closedRel returns the relation that is closed under operations of some tuples.
func closedRel(source *rand.Rand, size, arity int64, ops []impl.Op, tuples int) impl.Rel {
	all := listsOf(size, arity)
	var list [][]int64
	for range tuples {
		list = append(list, all[source.IntN(len(all))])
	}
	r, _ := impl.ClosureOf(size, arity, ops, list)
	return r
}

// closedTemplates returns templates whose relations are kept by operations; one
// of five has a relation without tuples.
func closedTemplates(seed uint64, size int64, count int, ops ...impl.Op) []impl.Template {
	source := rand.New(rand.NewPCG(seed, 6))
	var list []impl.Template
	for i := range count {
		x := impl.Template{Size: size}
		for range 1 + source.IntN(4) {
			x.Rels = append(x.Rels, closedRel(source, size, 1+source.Int64N(4), ops, 1+source.IntN(4)))
		}
		if i%5 == 4 {
			x.Rels = append(x.Rels, impl.Rel{Arity: 1 + source.Int64N(3)})
		}
		list = append(list, x)
	}
	return list
}

// affineTemplates returns templates of the sizes 2 and 3 of affine relations; one
// of five has a relation without tuples.
func affineTemplates(seed uint64, count int) []impl.Template {
	return append(closedTemplates(seed, 2, count, affine(2)), closedTemplates(seed, 3, count, affine(3))...)
}

// wantSystem calls SystemOf, and checks which system it returns, or the code.
func wantSystem(t *testing.T, want made, x impl.Template, y impl.Instance) {
	t.Helper()
	results := call(t, impl.SystemOf, roomyTemplate(x), roomyInstance(y))
	got := results[0].(impl.System)
	if code := results[1].(int64); code != want.code || code == impl.OK && shortSystem(got) != want.want {
		t.Errorf("SystemOf %s: got %s %d, want %s %d", shortOf(y), shortSystem(got), code, want.want, want.code)
	}
	s, code := systemBy(x, y)
	same(t, "SystemOf by the definition", results, []any{s, code})
}

// equationsVerdictBy returns what SolveByEquations has to return.
func equationsVerdictBy(x impl.Template, y impl.Instance) (impl.Verdict, int64) {
	s, code := systemBy(x, y)
	if code != impl.OK {
		return impl.Verdict{}, code
	}
	if by := refutationBy(s); by != nil {
		return impl.Verdict{Kind: impl.VkNumbers, Numbers: by}, impl.OK
	}
	values := make([]int64, y.Vars)
	for _, e := range reducedBy(s).List {
		values[slices.Index(e.Left, 1)] = e.Right
	}
	return impl.Verdict{Kind: impl.VkSolution, Values: values}, impl.OK
}

// checkBySystem compares the answer of SolveByEquations with the definition, and
// returns the verdict.
func checkBySystem(t *testing.T, x impl.Template, y impl.Instance) impl.Verdict {
	t.Helper()
	s, code := systemBy(x, y)
	wantCall(t, "SystemOf", []any{s, code}, impl.SystemOf, roomyTemplate(x), roomyInstance(y))
	v, code := equationsVerdictBy(x, y)
	wantCall(t, "SolveByEquations", []any{v, code}, impl.SolveByEquations, roomyTemplate(x), roomyInstance(y))
	if code == impl.OK {
		checkSolved(t, x, y, v)
	}
	return v
}

// checkSolved checks that a verdict is right, and a solution just if there is one.
func checkSolved(t *testing.T, x impl.Template, y impl.Instance, v impl.Verdict) {
	t.Helper()
	same(t, "right verdict on "+shortOf(y), checkIsVerdict(t, x, y, v), true)
	count, code := impl.CountSolutions(x, y)
	same(t, "CountSolutions", code, impl.OK)
	same(t, "a solution of "+shortOf(y), v.Kind == impl.VkSolution, count > 0)
}

func TestSystemsOfInstances(t *testing.T) {
	source := rand.New(rand.NewPCG(2, 6))
	counts := map[int64]int{}
	for _, x := range affineTemplates(3, 60) {
		for range 4 {
			y := randomInstance(source, x, 1+source.Int64N(6), source.IntN(8))
			v := checkBySystem(t, x, y)
			if len(v.Values)+len(v.Numbers) > 0 {
				counts[v.Kind]++
			}
		}
	}
	if counts[impl.VkSolution] < 100 || counts[impl.VkNumbers] < 100 {
		t.Errorf("too few verdicts: %v", counts)
	}
	eachInstance(8, 300, func(x impl.Template, y impl.Instance) { checkBySystem(t, x, y) })
}

func TestKnownSystemsOfInstances(t *testing.T) {
	x := template(t, "2/2 01 10/1 1/3 000 011 101 110/4 0110/2 00 01 10 11")
	wantSystem(t, fine("2 3 110=1 011=1"), x, instance("3 0:01 0:12"))
	wantSystem(t, fine("2 3 011=1 110=1"), x, instance("3 0:12 0:01"))
	wantSystem(t, fine("2 3 110=1 110=1"), x, instance("3 0:01 0:10"))
	// constraints without equations, and instances without constraints
	wantSystem(t, fine("2 4"), x, instance("4"))
	wantSystem(t, fine("2 4"), x, instance("4 4:01 4:22"))
	wantSystem(t, fine("2 2 01=1 10=1"), x, instance("2 1:1 4:01 1:0 4:10"))
	// equations in order
	wantSystem(t, fine("2 4 0001=0 0010=1 0100=1 1000=0"), x, instance("4 3:3210"))
	wantSystem(t, fine("2 5 01000=0 00001=1 10000=1 00010=0 00100=1"), x, instance("5 3:1403 1:2"))
	// equal variables: numbers are added up, and may give 0
	wantSystem(t, fine("2 1 0=1"), x, instance("1 0:00"))
	wantSystem(t, fine("2 2 01=0 10=0 01=0"), x, instance("2 2:001 2:101 2:100"))
	wantSystem(t, fine("2 1 1=0"), x, instance("1 2:000"))
	wantSystem(t, fine("2 2 10=0 01=1 10=1 01=0"), x, instance("2 3:0101"))
	y := template(t, "3/3 000 012 021 102 111 120 201 210 222/2 02 10 21/2 00 12 21/1 2")
	wantSystem(t, fine("3 3 111=0 120=1 011=0 001=2"), y, instance("3 0:012 1:01 2:21 3:2"))
	wantSystem(t, fine("3 2 21=0 21=0 12=0 00=0"), y, instance("2 0:001 0:010 0:101 0:111"))
	wantSystem(t, fine("3 1 0=1 2=0"), y, instance("1 1:00 2:00"))
	wantSystem(t, fine("3 10 1000000001=0 0000000012=1"), y, instance("10 2:90 1:89"))
}

func TestSystemsThatAreNot(t *testing.T) {
	// sizes that are neither 2 nor 3, whatever the constraints are
	for _, size := range []int64{1, 4} {
		one := impl.Template{Size: size, Rels: []impl.Rel{{Arity: 1, Tuples: [][]int64{{0}}}}}
		for _, short := range []string{"1", "3", "1 0:0", "2 0:0 0:1", "1" + repeated(" 0:0", 24)} {
			wantSystem(t, wrong(impl.ErrState), one, instance(short))
			wantCode(t, "SolveByEquations", impl.ErrState, impl.SolveByEquations, one, instance(short))
		}
		wantSystem(t, wrong(impl.ErrState), impl.Template{Size: size}, instance("1"))
	}
	// relations that are not affine: it matters whether a constraint speaks of them
	x := template(t, "2/2 01 10/2 00 01 10/2/1 0 1/4 0000")
	for short, want := range map[string]made{
		"2 0:01": fine("2 2 11=1"), "2 3:0": fine("2 2"), "2 1:01": wrong(impl.ErrState), "2 2:01": wrong(impl.ErrState), "2 0:01 1:01": wrong(impl.ErrState), "2 2:10 0:01": wrong(impl.ErrState), "2 0:01 3:0 2:11": wrong(impl.ErrState), "2 1:00": wrong(impl.ErrState),
		// ErrState comes ahead of ErrLimit
		"4" + repeated(" 4:0123", 7) + " 1:01": wrong(impl.ErrState), "4" + repeated(" 4:0123", 23) + " 2:01": wrong(impl.ErrState), "4" + repeated(" 4:0123", 7): wrong(impl.ErrLimit),
	} {
		wantSystem(t, want, x, instance(short))
		wantCode(t, "SolveByEquations", want.code, impl.SolveByEquations, x, instance(short))
	}
}

func TestLimitOfEquations(t *testing.T) {
	x := template(t, "2/4 0000/1 1/2 01 10/2 00 01 10 11/3 010")
	full := "4" + repeated(" 0:0123", 6)
	wantSystem(t, fine("2 4"+repeated(" 1000=0 0100=0 0010=0 0001=0", 6)), x, instance(full))
	wantSystem(t, fine("2 4"+repeated(" 1000=0 0100=0 0010=0 0001=0", 6)), x, instance(full+repeated(" 3:01", 18)))
	for _, more := range []string{" 1:0", " 0:0123", " 2:00", " 4:012", repeated(" 3:10", 17) + " 1:3"} {
		wantSystem(t, wrong(impl.ErrLimit), x, instance(full+more))
		wantCode(t, "SolveByEquations", impl.ErrLimit, impl.SolveByEquations, x, instance(full+more))
	}
	// MaxCons constraints with one equation
	wantSystem(t, fine("2 2"+repeated(" 11=1", 24)), x, instance("2"+repeated(" 2:01", 24)))
	wantCall(t, "SolveByEquations", []any{"{0 [1 0] [] [] []}", 0}, impl.SolveByEquations, x, instance("2"+repeated(" 2:01", 24)))
	wantCall(t, "SolveByEquations", []any{"{0 [0 0 0 0] [] [] []}", 0}, impl.SolveByEquations, x, instance(full))
	// 7 of 3 equations and 3 of one are 24
	wantCode(t, "SolveByEquations", impl.OK, impl.SolveByEquations, x, instance("4"+repeated(" 4:012", 7)+repeated(" 1:1", 3)))
	wantCode(t, "SolveByEquations", impl.ErrLimit, impl.SolveByEquations, x, instance("4"+repeated(" 4:012", 7)+repeated(" 1:1", 4)))
}

func TestKnownVerdictsByEquations(t *testing.T) {
	x := template(t, "2/2 01 10/1 1/3 001 010 100 111")
	y := template(t, "3/3 001 010 022 100 112 121 202 211 220/1 2/2 00 12 21")
	for _, c := range []struct {
		t           impl.Template
		short, want string
	}{
		// one answer, many, and none
		{x, "3 0:01 0:12 1:0", "{0 [1 0 1] [] [] []}"}, {x, "3 0:01 0:12", "{0 [0 1 0] [] [] []}"}, {x, "3", "{0 [0 0 0] [] [] []}"}, {x, "3 2:012", "{0 [1 0 0] [] [] []}"},
		{x, "4 0:32", "{0 [0 0 1 0] [] [] []}"}, {x, "1 0:00", "{3 [] [] [] [1]}"}, {x, "2 0:01 1:0 1:1", "{3 [] [] [] [1 1 1]}"}, {x, "3 0:01 1:2 0:12 0:02", "{3 [] [] [] [1 0 1 1]}"},
		{y, "3 0:012 1:0 1:1", "{0 [2 2 0] [] [] []}"}, {y, "3 0:012", "{0 [1 0 0] [] [] []}"}, {y, "1 0:000", "{3 [] [] [] [1]}"}, {y, "2 2:01 1:0 1:1", "{3 [] [] [] [2 1 1]}"},
	} {
		wantCall(t, "SolveByEquations", []any{c.want, 0}, impl.SolveByEquations, c.t, instance(c.short))
		checkBySystem(t, c.t, instance(c.short))
	}
}
