package tests

import (
	"fmt"
	"math"
	"math/rand/v2"
	"slices"
	"testing"

	"loop.example/g01085/impl"
)

// triangle is the instance in which each two of three variables stand in the
// relation 0.
func triangle() impl.Instance { return instance("3 0:01 0:02 0:12") }

// roomyVerdict returns the same verdict in slices that have capacity left.
func roomyVerdict(v impl.Verdict) impl.Verdict {
	arcs := append(make([]impl.ArcStep, 0, len(v.Arcs)+2), v.Arcs...)
	copy(arcs[len(arcs):cap(arcs)], []impl.ArcStep{{Var: 9}, {Con: 9}})
	pairs := append(make([]impl.PairStep, 0, len(v.Pairs)+2), v.Pairs...)
	copy(pairs[len(pairs):cap(pairs)], []impl.PairStep{{I: 9}, {J: 9}})
	return impl.Verdict{Kind: v.Kind, Values: roomyList(v.Values...), Arcs: arcs, Pairs: pairs, Numbers: roomyList(v.Numbers...)}
}

// systemBy returns what SystemOf has to return, by the definition.
func systemBy(x impl.Template, y impl.Instance) (impl.System, int64) {
	s := impl.System{Prime: x.Size, Unknowns: y.Vars}
	if x.Size != 2 && x.Size != 3 {
		return impl.System{}, impl.ErrState
	}
	for _, c := range y.Cons {
		if !isAffineBy(x.Size, x.Rels[c.Rel]) {
			return impl.System{}, impl.ErrState
		}
	}
	for _, c := range y.Cons {
		for _, e := range equationsBy(x.Size, x.Rels[c.Rel]).List {
			left := make([]int64, y.Vars)
			for place, variable := range c.Scope {
				left[variable] += e.Left[place]
			}
			for variable := range left {
				left[variable] %= x.Size
			}
			s.List = append(s.List, impl.Equation{Left: left, Right: e.Right})
		}
	}
	if len(s.List) > impl.MaxEquations {
		return impl.System{}, impl.ErrLimit
	}
	return s, impl.OK
}

// usesOnly reports whether a verdict has nothing in the fields that its kind does
// not use.
func usesOnly(v impl.Verdict) bool {
	lengths := []int{len(v.Values), len(v.Arcs), len(v.Pairs), len(v.Numbers)}
	lengths[v.Kind] = 0
	return slices.Max(lengths) == 0
}

// isVerdictBy tells by the definition whether a verdict is right.
func isVerdictBy(x impl.Template, y impl.Instance, v impl.Verdict) bool {
	if v.Kind < 0 || v.Kind > 3 || !usesOnly(v) {
		return false
	}
	switch v.Kind {
	case impl.VkSolution:
		isNone := func(value int64) bool { return value < 0 || value >= x.Size }
		return int64(len(v.Values)) == y.Vars && !slices.ContainsFunc(v.Values, isNone) && failingBy(x, y, v.Values) < 0
	case impl.VkArcs:
		left, ok := replayBy(x, y, fullDomains(x.Size, y.Vars), v.Arcs)[0].([][]int64)
		return ok && slices.ContainsFunc(left, func(d []int64) bool { return len(d) == 0 })
	case impl.VkPairs:
		left, ok := replayPairsBy(x, y, v.Pairs)[0].([]impl.Rel)
		return ok && slices.ContainsFunc(left, func(r impl.Rel) bool { return len(r.Tuples) == 0 })
	}
	s, code := systemBy(x, y)
	return code == impl.OK && isRefutationBy(s, v.Numbers)
}

// checkIsVerdict compares what is said of a verdict with the definition.
func checkIsVerdict(t *testing.T, x impl.Template, y impl.Instance, v impl.Verdict) bool {
	t.Helper()
	isRight := isVerdictBy(x, y, v)
	wantCall(t, "IsVerdict", []any{isRight, 0}, impl.IsVerdict, roomyTemplate(x), roomyInstance(y), roomyVerdict(v))
	return isRight
}

// someVerdicts returns a verdict of each kind on an instance, which may not be
// right: the first values of all, and all steps and numbers that there are.
func someVerdicts(x impl.Template, y impl.Instance) []impl.Verdict {
	values := make([]int64, y.Vars)
	if all := solutionsBy(x, y); len(all) > 0 {
		values = all[len(all)/2]
	}
	_, arcs := arcsBy(x, y, fullDomains(x.Size, y.Vars))
	_, pairs, _ := pairsBy(x, y)
	list := []impl.Verdict{{Kind: impl.VkSolution, Values: values}, {Kind: impl.VkArcs, Arcs: arcs}, {Kind: impl.VkPairs, Pairs: pairs}}
	if s, code := systemBy(x, y); code == impl.OK {
		list = append(list, impl.Verdict{Kind: impl.VkNumbers, Numbers: refutationBy(s)})
	}
	return list
}

// nearVerdicts returns verdicts that differ from one in one thing.
func nearVerdicts(source *rand.Rand, size int64, v impl.Verdict) []impl.Verdict {
	var list []impl.Verdict
	for _, kind := range []int64{-1, 0, 1, 2, 3, 4, math.MaxInt64, math.MinInt64} {
		near := v
		near.Kind = kind
		list = append(list, near)
	}
	add := func(change func(near *impl.Verdict)) {
		near := impl.Verdict{Kind: v.Kind, Values: slices.Clone(v.Values), Arcs: slices.Clone(v.Arcs), Pairs: slices.Clone(v.Pairs), Numbers: slices.Clone(v.Numbers)}
		change(&near)
		list = append(list, near)
	}
	add(func(near *impl.Verdict) { near.Values = append(near.Values, 0) })
	add(func(near *impl.Verdict) { near.Arcs = append(near.Arcs, impl.ArcStep{}) })
	add(func(near *impl.Verdict) { near.Pairs = append(near.Pairs, impl.PairStep{J: 1, Through: 2}) })
	add(func(near *impl.Verdict) { near.Numbers = append(near.Numbers, 0) })
	for i := range v.Values {
		add(func(near *impl.Verdict) { near.Values[i] = source.Int64N(size+2) - 1 })
		add(func(near *impl.Verdict) { near.Values = near.Values[:i] })
	}
	for i := range v.Arcs {
		add(func(near *impl.Verdict) { near.Arcs[i].Value = (near.Arcs[i].Value + 1) % size })
		add(func(near *impl.Verdict) { near.Arcs = near.Arcs[:i] })
		add(func(near *impl.Verdict) { near.Arcs = slices.Delete(near.Arcs, i, i+1) })
	}
	for i := range v.Pairs {
		add(func(near *impl.Verdict) { near.Pairs[i].Through++ })
		add(func(near *impl.Verdict) { near.Pairs = near.Pairs[:i] })
		add(func(near *impl.Verdict) { near.Pairs = slices.Delete(near.Pairs, i, i+1) })
	}
	for i := range v.Numbers {
		add(func(near *impl.Verdict) { near.Numbers[i] = source.Int64N(size+2) - 1 })
		add(func(near *impl.Verdict) { near.Numbers = near.Numbers[:i] })
	}
	return list
}

func TestExampleOfChapter6(t *testing.T) {
	majority := impl.Op{Arity: 3, Table: []int64{0, 0, 0, 1, 0, 1, 1, 1}}
	wantCall(t, "SolverFor", []any{impl.SvMajority, majority, 0}, impl.SolverFor, swap())
	byPairs := impl.Verdict{Kind: impl.VkPairs, Pairs: []impl.PairStep{{I: 0, J: 1, Through: 2}, {I: 0, J: 2, Through: 1}, {I: 1, J: 2, Through: 0}}}
	byNumbers := impl.Verdict{Kind: impl.VkNumbers, Numbers: []int64{1, 1, 1}}
	wantCall(t, "SolveByMajority", []any{byPairs, 0}, impl.SolveByMajority, swap(), triangle(), majority)
	wantCall(t, "SolveByEquations", []any{byNumbers, 0}, impl.SolveByEquations, swap(), triangle())
	wantCall(t, "SolveWith", []any{impl.SvMajority, byPairs, 0}, impl.SolveWith, swap(), triangle())
	wantCall(t, "IsVerdict", []any{true, 0}, impl.IsVerdict, swap(), triangle(), byPairs)
	wantCall(t, "IsVerdict", []any{true, 0}, impl.IsVerdict, swap(), triangle(), byNumbers)
}

func TestNumbersOfChapter6(t *testing.T) {
	same(t, "ways", []int64{impl.SvConstant, impl.SvSemilattice, impl.SvMajority, impl.SvEquations}, []int64{1, 2, 3, 4})
	same(t, "kinds", []int64{impl.VkSolution, impl.VkArcs, impl.VkPairs, impl.VkNumbers}, []int64{0, 1, 2, 3})
}

// differentVerdicts are verdicts of which no two are equal; most are not right.
func differentVerdicts() []impl.Verdict {
	return []impl.Verdict{
		{}, {Kind: 1}, {Kind: 2}, {Kind: 3}, {Kind: 4}, {Kind: -1}, {Kind: math.MinInt64},
		{Values: []int64{0}}, {Values: []int64{1}}, {Values: []int64{0, 1}}, {Values: []int64{1, 0}}, {Values: []int64{-9}}, {Kind: 3, Values: []int64{0}},
		{Arcs: []impl.ArcStep{{}}}, {Arcs: []impl.ArcStep{{}, {}}}, {Arcs: []impl.ArcStep{{Var: 1}}}, {Arcs: []impl.ArcStep{{Value: 1}}}, {Arcs: []impl.ArcStep{{Con: 1}}}, {Kind: 1, Arcs: []impl.ArcStep{{}}}, {Arcs: []impl.ArcStep{{}, {Con: -1}}},
		{Pairs: []impl.PairStep{{}}}, {Pairs: []impl.PairStep{{}, {}}}, {Pairs: []impl.PairStep{{I: 1}}}, {Pairs: []impl.PairStep{{J: 1}}}, {Pairs: []impl.PairStep{{Through: 1}}}, {Kind: 2, Pairs: []impl.PairStep{{}}},
		{Numbers: []int64{0}}, {Numbers: []int64{1}}, {Numbers: []int64{0, 0}}, {Numbers: []int64{0, 1}}, {Kind: 3, Numbers: []int64{0}}, {Kind: 3, Numbers: []int64{1, 1, 1}},
		{Values: []int64{0}, Numbers: []int64{0}}, {Kind: 9, Values: []int64{7}, Arcs: []impl.ArcStep{{Var: 7}}, Pairs: []impl.PairStep{{I: 7}}, Numbers: []int64{7}},
	}
}

func TestSameVerdict(t *testing.T) {
	for i, v := range differentVerdicts() {
		for j, w := range differentVerdicts() {
			wantCall(t, "SameVerdict", []any{i == j}, impl.SameVerdict, v, roomyVerdict(w))
		}
	}
	// nil and empty lists are the same, whichever side has them
	empty := impl.Verdict{Kind: 5, Values: []int64{}, Arcs: []impl.ArcStep{}, Pairs: []impl.PairStep{}, Numbers: []int64{}}
	wantCall(t, "SameVerdict", []any{true}, impl.SameVerdict, impl.Verdict{Kind: 5}, empty)
	wantCall(t, "SameVerdict", []any{true}, impl.SameVerdict, empty, impl.Verdict{Kind: 5})
	wantCall(t, "SameVerdict", []any{false}, impl.SameVerdict, empty, impl.Verdict{})
}

func TestVerdictsByDefinition(t *testing.T) {
	source := rand.New(rand.NewPCG(1, 6))
	rights := map[int64]int{}
	check := func(x impl.Template, y impl.Instance) {
		for _, v := range someVerdicts(x, y) {
			if checkIsVerdict(t, x, y, v) {
				rights[v.Kind]++
			}
			for _, near := range nearVerdicts(source, x.Size, v) {
				checkIsVerdict(t, x, y, near)
			}
		}
	}
	count := 0
	eachInstance(7, 300, func(x impl.Template, y impl.Instance) {
		if count++; count%5 == 0 {
			check(x, y)
		}
	})
	for _, x := range affineTemplates(2, 20) {
		check(x, randomInstance(source, x, 1+source.Int64N(4), 1+source.IntN(5)))
	}
	for kind, least := range map[int64]int{impl.VkSolution: 40, impl.VkArcs: 20, impl.VkPairs: 20, impl.VkNumbers: 5} {
		if rights[kind] < least {
			t.Errorf("too few verdicts that are right: %v", rights)
		}
	}
}

// wantRight checks whether a verdict is right, and what the definition tells.
func wantRight(t *testing.T, want bool, x impl.Template, short string, v impl.Verdict) {
	t.Helper()
	same(t, fmt.Sprint("IsVerdict of ", short, " and ", v), checkIsVerdict(t, x, instance(short), v), want)
}

func TestVerdictsWithSolutions(t *testing.T) {
	wantRight(t, true, example(), "3 0:01 0:12 1:0", impl.Verdict{Values: []int64{1, 0, 1}})
	wantRight(t, true, example(), "3", impl.Verdict{Values: []int64{0, 0, 0}})
	for _, values := range [][]int64{
		// no solutions
		{0, 1, 0}, {1, 1, 1}, {0, 0, 0}, {1, 0, 0},
		// too few, too many, or out of range
		nil, {}, {1}, {1, 0}, {1, 0, 1, 0}, {1, 0, 1, 1, 0, 1}, {1, 0, 2}, {2, 0, 1}, {1, -1, 1}, {1, 0, math.MaxInt64}, {math.MinInt64, 0, 1},
	} {
		wantRight(t, false, example(), "3 0:01 0:12 1:0", impl.Verdict{Values: values})
	}
	for _, values := range [][]int64{nil, {0, 0}, {0, 0, 0, 0}, {0, 0, 2}, {0, -1, 0}} {
		wantRight(t, false, example(), "3", impl.Verdict{Values: values})
	}
	right := impl.Verdict{Values: []int64{1, 0, 1}}
	for _, change := range []func(v *impl.Verdict){
		func(v *impl.Verdict) { v.Kind = -1 }, func(v *impl.Verdict) { v.Kind = 1 }, func(v *impl.Verdict) { v.Kind = 2 }, func(v *impl.Verdict) { v.Kind = 3 }, func(v *impl.Verdict) { v.Kind = 4 },
		// fields that are not used
		func(v *impl.Verdict) { v.Arcs = []impl.ArcStep{{Var: 0, Value: 0, Con: 2}} }, func(v *impl.Verdict) { v.Pairs = []impl.PairStep{{I: 0, J: 2, Through: 1}} }, func(v *impl.Verdict) { v.Numbers = []int64{0} },
	} {
		v := right
		change(&v)
		wantRight(t, false, example(), "3 0:01 0:12 1:0", v)
	}
	wantCall(t, "empty lists", []any{true, 0}, impl.IsVerdict, example(), colours(), impl.Verdict{Values: []int64{1, 0, 1}, Arcs: []impl.ArcStep{}, Pairs: []impl.PairStep{}, Numbers: []int64{}})
}

func TestVerdictsWithArcs(t *testing.T) {
	short := "3 1:0 0:01 0:12 1:1"
	steps := []impl.ArcStep{{Var: 0, Value: 0, Con: 0}, {Var: 1, Value: 1, Con: 1}, {Var: 1, Value: 0, Con: 3}}
	wantRight(t, true, example(), short, impl.Verdict{Kind: impl.VkArcs, Arcs: steps})
	// other steps that are right
	wantRight(t, true, example(), short, impl.Verdict{Kind: impl.VkArcs, Arcs: []impl.ArcStep{steps[2], steps[0], steps[1]}})
	wantRight(t, true, example(), short, impl.Verdict{Kind: impl.VkArcs, Arcs: append(slices.Clone(steps), impl.ArcStep{Var: 2, Value: 0, Con: 2})})
	for _, wrongSteps := range [][]impl.ArcStep{
		// steps that leave values
		nil, {}, steps[:1], steps[:2], steps[2:],
		// steps that are not right
		{steps[1], steps[0], steps[2]}, {steps[0], steps[1], {Var: 1, Value: 0, Con: 1}}, {steps[0], steps[1], {Var: 1, Value: 0, Con: 4}}, append(slices.Clone(steps), steps[0]), append(slices.Clone(steps), impl.ArcStep{Var: 3}), append(slices.Clone(steps), impl.ArcStep{Var: -1}),
	} {
		wantRight(t, false, example(), short, impl.Verdict{Kind: impl.VkArcs, Arcs: wrongSteps})
	}
	for _, kind := range []int64{-1, 0, 2, 3, 4} {
		wantRight(t, false, example(), short, impl.Verdict{Kind: kind, Arcs: steps})
	}
	wantRight(t, false, example(), short, impl.Verdict{Kind: impl.VkArcs, Arcs: steps, Values: []int64{1, 0, 1}})
	wantRight(t, false, example(), short, impl.Verdict{Kind: impl.VkArcs, Arcs: steps, Pairs: []impl.PairStep{{I: 0, J: 2, Through: 1}}})
	wantRight(t, false, example(), short, impl.Verdict{Kind: impl.VkArcs, Arcs: steps, Numbers: []int64{1}})
	// instances with solutions, and those of which arcs leave all values
	wantRight(t, false, example(), "3 0:01 0:12 1:0", impl.Verdict{Kind: impl.VkArcs, Arcs: []impl.ArcStep{{Var: 0, Value: 0, Con: 2}, {Var: 1, Value: 1, Con: 0}, {Var: 2, Value: 0, Con: 1}}})
	wantRight(t, false, swap(), "3 0:01 0:02 0:12", impl.Verdict{Kind: impl.VkArcs})
	// one variable, the first one and the last one
	empty := template(t, "2/2/1 1")
	wantRight(t, true, empty, "1 0:00", impl.Verdict{Kind: impl.VkArcs, Arcs: []impl.ArcStep{{Value: 0}, {Value: 1}}})
	wantRight(t, false, empty, "1 0:00", impl.Verdict{Kind: impl.VkArcs, Arcs: []impl.ArcStep{{Value: 1}}})
	wantRight(t, true, empty, "3 0:21", impl.Verdict{Kind: impl.VkArcs, Arcs: []impl.ArcStep{{Var: 2, Value: 1}, {Var: 2, Value: 0}}})
}

func TestVerdictsWithPairs(t *testing.T) {
	steps := []impl.PairStep{{I: 0, J: 1, Through: 2}, {I: 0, J: 2, Through: 1}, {I: 1, J: 2, Through: 0}}
	short := "3 0:01 0:02 0:12"
	for i, step := range steps {
		wantRight(t, true, swap(), short, impl.Verdict{Kind: impl.VkPairs, Pairs: steps[:i+1]})
		wantRight(t, true, swap(), short, impl.Verdict{Kind: impl.VkPairs, Pairs: []impl.PairStep{step}})
		wantRight(t, false, swap(), short, impl.Verdict{Kind: impl.VkPairs, Pairs: append(steps[:i+1:i+1], step)})
	}
	for _, wrongSteps := range [][]impl.PairStep{
		// steps that leave pairs, and steps that are not right
		nil, {{I: 1, J: 0, Through: 2}}, {{I: 0, J: 1, Through: 0}}, {{I: 0, J: 1, Through: 3}}, {steps[0], {I: 0, J: 3, Through: 1}}, {steps[0], {}}, {{I: -1, J: 1, Through: 2}},
	} {
		wantRight(t, false, swap(), short, impl.Verdict{Kind: impl.VkPairs, Pairs: wrongSteps})
	}
	for _, kind := range []int64{-1, 0, 1, 3, 4} {
		wantRight(t, false, swap(), short, impl.Verdict{Kind: kind, Pairs: steps})
	}
	wantRight(t, false, swap(), short, impl.Verdict{Kind: impl.VkPairs, Pairs: steps, Values: []int64{0, 1, 0}})
	wantRight(t, false, swap(), short, impl.Verdict{Kind: impl.VkPairs, Pairs: steps, Arcs: []impl.ArcStep{{}}})
	wantRight(t, false, swap(), short, impl.Verdict{Kind: impl.VkPairs, Pairs: steps, Numbers: []int64{1, 1, 1}})
	// a pair relation that is empty at once, and steps that do not empty one
	wantRight(t, true, example(), "2 0:01 1:0 1:1", impl.Verdict{Kind: impl.VkPairs})
	wantRight(t, false, example(), "2 0:01 1:0", impl.Verdict{Kind: impl.VkPairs})
	wantRight(t, false, example(), "3 0:01 0:12 1:0", impl.Verdict{Kind: impl.VkPairs, Pairs: []impl.PairStep{{I: 0, J: 2, Through: 1}, {I: 1, J: 2, Through: 0}}})
	wantRight(t, true, example(), "3 1:0 1:1 0:01", impl.Verdict{Kind: impl.VkPairs})
	// an instance of one variable has no pair relations
	empty := template(t, "2/1/1 1")
	for _, short := range []string{"1", "1 0:0", "1 1:0"} {
		for _, pairs := range [][]impl.PairStep{nil, {}, {{}}, {{I: 0, J: 1, Through: 2}}} {
			wantRight(t, false, empty, short, impl.Verdict{Kind: impl.VkPairs, Pairs: pairs})
		}
	}
}

func TestVerdictsWithNumbers(t *testing.T) {
	short := "3 0:01 0:02 0:12"
	wantRight(t, true, swap(), short, impl.Verdict{Kind: impl.VkNumbers, Numbers: []int64{1, 1, 1}})
	for _, numbers := range [][]int64{nil, {}, {1}, {1, 1}, {1, 1, 1, 1}, {1, 1, 1, 0}, {0, 1, 1}, {1, 1, 0}, {0, 0, 0}, {1, 1, 3}, {1, 1, -1}, {3, 3, 3}, {1, math.MaxInt64, 1}} {
		wantRight(t, false, swap(), short, impl.Verdict{Kind: impl.VkNumbers, Numbers: numbers})
	}
	for _, kind := range []int64{-1, 0, 1, 2, 4} {
		wantRight(t, false, swap(), short, impl.Verdict{Kind: kind, Numbers: []int64{1, 1, 1}})
	}
	wantRight(t, false, swap(), short, impl.Verdict{Kind: impl.VkNumbers, Numbers: []int64{1, 1, 1}, Values: []int64{0, 0, 0}})
	wantRight(t, false, swap(), short, impl.Verdict{Kind: impl.VkNumbers, Numbers: []int64{1, 1, 1}, Arcs: []impl.ArcStep{{}}})
	wantRight(t, false, swap(), short, impl.Verdict{Kind: impl.VkNumbers, Numbers: []int64{1, 1, 1}, Pairs: []impl.PairStep{{J: 1, Through: 2}}})
	// instances with solutions, and without constraints
	wantRight(t, false, swap(), "3 0:01 0:02", impl.Verdict{Kind: impl.VkNumbers, Numbers: []int64{1, 1}})
	wantRight(t, false, swap(), "3", impl.Verdict{Kind: impl.VkNumbers})
	// the size 3: more than one refutation
	three := template(t, "3/3 001 010 022 100 112 121 202 211 220")
	wantRight(t, true, three, "1 0:000", impl.Verdict{Kind: impl.VkNumbers, Numbers: []int64{1}})
	wantRight(t, true, three, "1 0:000", impl.Verdict{Kind: impl.VkNumbers, Numbers: []int64{2}})
	wantRight(t, false, three, "1 0:000", impl.Verdict{Kind: impl.VkNumbers, Numbers: []int64{0}})
	// there is no system: for the size, for a relation, and for the number of equations
	wantRight(t, false, template(t, "4/2 01 10"), "1 0:00", impl.Verdict{Kind: impl.VkNumbers, Numbers: []int64{1}})
	wantRight(t, false, template(t, "1/1"), "1 0:0", impl.Verdict{Kind: impl.VkNumbers, Numbers: []int64{1}})
	wantRight(t, false, template(t, "1/1"), "1 0:0", impl.Verdict{Kind: impl.VkNumbers})
	mixedUp := template(t, "2/2 01 10/2 00 01 10/1")
	wantRight(t, true, mixedUp, "1 0:00", impl.Verdict{Kind: impl.VkNumbers, Numbers: []int64{1}})
	wantRight(t, false, mixedUp, "1 0:00 1:00", impl.Verdict{Kind: impl.VkNumbers, Numbers: []int64{1}})
	wantRight(t, false, mixedUp, "1 0:00 2:0", impl.Verdict{Kind: impl.VkNumbers, Numbers: []int64{1}})
	many := template(t, "2/4 0000/1 1/2 01 10")
	ones := slices.Repeat([]int64{0}, 23)
	wantRight(t, true, many, "4 2:00"+repeated(" 0:0123", 5)+repeated(" 1:0", 3), impl.Verdict{Kind: impl.VkNumbers, Numbers: append([]int64{1}, ones...)})
	wantRight(t, false, many, "4 2:00"+repeated(" 0:0123", 5)+repeated(" 1:0", 4), impl.Verdict{Kind: impl.VkNumbers, Numbers: append([]int64{1, 0}, ones...)})
}
