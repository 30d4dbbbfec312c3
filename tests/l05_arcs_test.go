package tests

import (
	"math"
	"math/rand/v2"
	"slices"
	"testing"

	"loop.example/g01085/impl"
)

// less is the template of the size 4 with the pairs of a lesser and a greater
// value.
func less() impl.Template {
	return impl.Template{Size: 4, Rels: []impl.Rel{relWhere(4, 2, func(x []int64) bool { return x[0] < x[1] })}}
}

// fullDomains returns the domains with all values.
func fullDomains(size, vars int64) [][]int64 {
	domains := make([][]int64, vars)
	for i := range domains {
		for value := range size {
			domains[i] = append(domains[i], value)
		}
	}
	return domains
}

// someDomains returns domains: all values, only some, and at times none.
func someDomains(source *rand.Rand, size, vars int64) [][]int64 {
	percent := []int{100, 90, 60, 30}[source.IntN(4)]
	domains := make([][]int64, 0, vars+2)
	for range vars {
		values := make([]int64, 0, size+2)
		for value := range size {
			if source.IntN(100) < percent {
				values = append(values, value)
			}
		}
		domains = append(domains, values)
	}
	return domains
}

// isSupport tells by the definition whether a tuple is a support of a value at a
// place of a constraint.
func isSupport(c impl.Con, place int, value int64, domains [][]int64, tuple []int64) bool {
	for p, variable := range c.Scope {
		if !slices.Contains(domains[variable], tuple[p]) {
			return false
		}
		for q, other := range c.Scope {
			if variable == other && tuple[p] != tuple[q] {
				return false
			}
		}
	}
	return tuple[place] == value
}

// hasSupport tells by the definition whether a value has a support at a place of
// a constraint.
func hasSupport(x impl.Template, c impl.Con, place int, value int64, domains [][]int64) bool {
	return slices.ContainsFunc(x.Rels[c.Rel].Tuples, func(tuple []int64) bool { return isSupport(c, place, value, domains, tuple) })
}

// without returns domains without a value of a variable.
func without(domains [][]int64, variable, value int64) [][]int64 {
	left := slices.Clone(domains)
	left[variable] = slices.DeleteFunc(slices.Clone(left[variable]), func(v int64) bool { return v == value })
	return left
}

// arcsBy makes arcs, by the definition.
func arcsBy(x impl.Template, y impl.Instance, domains [][]int64) ([][]int64, []impl.ArcStep) {
	var steps []impl.ArcStep
	for {
		before := len(steps)
		for con, c := range y.Cons {
			for place, variable := range c.Scope {
				for _, value := range domains[variable] {
					if !hasSupport(x, c, place, value, domains) {
						domains = without(domains, variable, value)
						steps = append(steps, impl.ArcStep{Var: variable, Value: value, Con: int64(con)})
					}
				}
			}
		}
		if len(steps) == before {
			return domains, steps
		}
	}
}

// replayBy returns what ReplayArcs has to return, by the definition.
func replayBy(x impl.Template, y impl.Instance, domains [][]int64, steps []impl.ArcStep) []any {
	for i, s := range steps {
		isRight := false
		if s.Var >= 0 && s.Var < y.Vars && slices.Contains(domains[s.Var], s.Value) && s.Con >= 0 && s.Con < int64(len(y.Cons)) {
			for place, variable := range y.Cons[s.Con].Scope {
				isRight = isRight || variable == s.Var && !hasSupport(x, y.Cons[s.Con], place, s.Value, domains)
			}
		}
		if !isRight {
			return []any{"[]", i, impl.ErrProof}
		}
		domains = without(domains, s.Var, s.Value)
	}
	return []any{domains, 0, 0}
}

// checkArcs compares the arcs of an instance, from some domains on, with the
// definition.
func checkArcs(t *testing.T, x impl.Template, y impl.Instance, domains [][]int64) {
	t.Helper()
	left, steps := arcsBy(x, y, domains)
	wantCall(t, "MakeArcs", []any{left, steps, 0}, impl.MakeArcs, roomyTemplate(x), roomyInstance(y), domains)
	wantCall(t, "IsArcConsistent", []any{len(steps) == 0, 0}, impl.IsArcConsistent, roomyTemplate(x), roomyInstance(y), domains)
	wantCall(t, "ReplayArcs", []any{left, 0, 0}, impl.ReplayArcs, roomyTemplate(x), roomyInstance(y), domains, steps)
	wantCall(t, "ValidDomains of what is left", []any{true}, impl.ValidDomains, x, y, left)
	wantCall(t, "MakeArcs of what is left", []any{left, "[]", 0}, impl.MakeArcs, x, y, left)
	wantCall(t, "IsArcConsistent of what is left", []any{true, 0}, impl.IsArcConsistent, x, y, left)
	for _, values := range solutionsBy(x, y) {
		for variable, value := range values {
			if !slices.Contains(domains[variable], value) {
				break
			}
			if variable == len(values)-1 && !slices.EqualFunc(values, left, func(v int64, d []int64) bool { return slices.Contains(d, v) }) {
				t.Errorf("the solution %v of %s is not in %v", values, shortOf(y), left)
			}
		}
	}
}

// checkReplays compares the replaying of steps near those of MakeArcs with the
// definition.
func checkReplays(t *testing.T, source *rand.Rand, x impl.Template, y impl.Instance, domains [][]int64) {
	t.Helper()
	_, steps := arcsBy(x, y, domains)
	steps = append(make([]impl.ArcStep, 0, len(steps)+3), steps...)
	check := func(near []impl.ArcStep) {
		wantCall(t, "ReplayArcs", replayBy(x, y, domains, near), impl.ReplayArcs, x, y, domains, near)
	}
	shuffled := slices.Clone(steps)
	source.Shuffle(len(steps), func(i, j int) { shuffled[i], shuffled[j] = shuffled[j], shuffled[i] })
	check(shuffled)
	for i := range steps {
		check(steps[:i])
		check(steps[i:])
		check(slices.Delete(slices.Clone(steps), i, i+1))
		check(slices.Insert(slices.Clone(steps), i, steps[source.IntN(len(steps))]))
		near := slices.Clone(steps)
		switch source.IntN(3) {
		case 0:
			near[i].Var = source.Int64N(y.Vars+2) - 1
		case 1:
			near[i].Value = source.Int64N(x.Size+2) - 1
		case 2:
			near[i].Con = source.Int64N(int64(len(y.Cons))+2) - 1
		}
		check(near)
	}
}

func TestArcsByDefinition(t *testing.T) {
	source := rand.New(rand.NewPCG(31, 5))
	count := 0
	eachInstance(3, 300, func(x impl.Template, y impl.Instance) {
		checkArcs(t, x, y, fullDomains(x.Size, y.Vars))
		checkArcs(t, x, y, someDomains(source, x.Size, y.Vars))
		if count++; count%4 == 0 {
			checkReplays(t, source, x, y, fullDomains(x.Size, y.Vars))
			checkReplays(t, source, x, y, someDomains(source, x.Size, y.Vars))
		}
	})
}

func TestFullDomains(t *testing.T) {
	for size := int64(1); size <= 4; size++ {
		for vars := int64(1); vars <= 10; vars++ {
			wantCall(t, "FullDomains", []any{fullDomains(size, vars), 0}, impl.FullDomains, impl.Template{Size: size}, impl.Instance{Vars: vars})
			wantCall(t, "ValidDomains", []any{true}, impl.ValidDomains, impl.Template{Size: size}, impl.Instance{Vars: vars}, fullDomains(size, vars))
		}
	}
	// constraints do not matter
	wantCall(t, "FullDomains", []any{"[[0 1] [0 1]]", 0}, impl.FullDomains, example(), instance("2 1:0 1:1"))
}

// wantArcs checks what MakeArcs leaves, and its steps, and what the definition
// tells of them.
func wantArcs(t *testing.T, x impl.Template, short string, domains [][]int64, left, steps string) {
	t.Helper()
	y := instance(short)
	wantCall(t, "MakeArcs", []any{left, steps, 0}, impl.MakeArcs, x, y, domains)
	checkArcs(t, x, y, domains)
	checkReplays(t, rand.New(rand.NewPCG(32, 5)), x, y, domains)
}

func TestOrderOfArcSteps(t *testing.T) {
	full := func(vars int64) [][]int64 { return fullDomains(4, vars) }
	two := template(t, "4/1 2/2 12/2 03 12 21/1 1 3")
	// several values that go at one place, in ascending order
	wantArcs(t, two, "1 0:0", full(1), "[[2]]", "[{0 0 0} {0 1 0} {0 3 0}]")
	wantArcs(t, two, "2 1:01", full(2), "[[1] [2]]", "[{0 0 0} {0 2 0} {0 3 0} {1 0 0} {1 1 0} {1 3 0}]")
	// places go in order, not variables
	wantArcs(t, two, "2 1:10", full(2), "[[2] [1]]", "[{1 0 0} {1 2 0} {1 3 0} {0 0 0} {0 1 0} {0 3 0}]")
	// the first constraint without a support is told
	wantArcs(t, two, "2 3:1 0:0 0:0 3:1", full(2), "[[2] [1 3]]", "[{1 0 0} {1 2 0} {0 0 1} {0 1 1} {0 3 1}]")
	// a value goes as soon as another one has gone, in the same round
	wantArcs(t, two, "2 0:0 2:01", full(2), "[[2] [1]]", "[{0 0 0} {0 1 0} {0 3 0} {1 0 1} {1 2 1} {1 3 1}]")
	// or in a further round
	wantArcs(t, two, "2 2:01 0:0", full(2), "[[2] [1]]", "[{0 3 0} {1 0 0} {0 0 1} {0 1 1} {1 2 0} {1 3 0}]")
	wantArcs(t, less(), "2 0:01", full(2), "[[0 1 2] [1 2 3]]", "[{0 3 0} {1 0 0}]")
	wantArcs(t, less(), "3 0:01 0:12", full(3), "[[0 1] [1 2] [2 3]]", "[{0 3 0} {1 0 0} {1 3 1} {2 0 1} {2 1 1} {0 2 0}]")
	wantArcs(t, less(), "3 0:12 0:01", full(3), "[[0 1] [1 2] [2 3]]", "[{1 3 0} {2 0 0} {0 2 1} {0 3 1} {1 0 1} {2 1 0}]")
	wantArcs(t, less(), "2 0:01 0:10", full(2), "[[] []]", "[{0 3 0} {1 0 0} {1 2 1} {1 3 1} {0 0 1} {0 1 1} {0 2 0} {1 1 0}]")
	wantArcs(t, less(), "4 0:23 0:12 0:01", full(4), "[[0] [1] [2] [3]]", "[{2 3 0} {3 0 0} {1 2 1} {1 3 1} {2 0 1} {0 1 2} {0 2 2} {0 3 2} {1 0 2} {3 1 0} {2 1 1} {3 2 0}]")
	// the example, and the same with the constraints the other way round
	wantArcs(t, example(), "3 0:01 0:12 1:0", fullDomains(2, 3), "[[1] [0] [1]]", "[{0 0 2} {1 1 0} {2 0 1}]")
	wantArcs(t, example(), "3 1:0 0:12 0:01", fullDomains(2, 3), "[[1] [0] [1]]", "[{0 0 0} {1 1 2} {2 0 1}]")
	wantArcs(t, example(), "3 0:01 0:12 1:0 0:02", fullDomains(2, 3), "[[] [] []]", "[{0 0 2} {2 1 3} {1 1 0} {1 0 1} {2 0 1} {0 1 3}]")
	// one variable in each round
	back := "10 0:89 0:78 0:67 0:56 0:45 0:34 0:23 0:12 0:01 1:0"
	wantCall(t, "MakeArcs", []any{"[[1] [0] [1] [0] [1] [0] [1] [0] [1] [0]]", "[{0 0 9} {1 1 8} {2 0 7} {3 1 6} {4 0 5} {5 1 4} {6 0 3} {7 1 2} {8 0 1} {9 1 0}]", 0}, impl.MakeArcs, example(), instance(back), fullDomains(2, 10))
	// arcs alone do not find out that there is no solution
	wantArcs(t, example(), "3 0:01 0:12 0:02", fullDomains(2, 3), "[[0 1] [0 1] [0 1]]", "[]")
	wantArcs(t, example(), "10", fullDomains(2, 10), "[[0 1] [0 1] [0 1] [0 1] [0 1] [0 1] [0 1] [0 1] [0 1] [0 1]]", "[]")
}

func TestArcsOfEqualVariables(t *testing.T) {
	x := template(t, "4/2 01 10 22/3 010 021 122 333/2 00 11 22 33/4 0101 0123 1212")
	// a support has equal values there
	wantArcs(t, x, "1 0:00", fullDomains(4, 1), "[[2]]", "[{0 0 0} {0 1 0} {0 3 0}]")
	wantArcs(t, x, "2 1:010", fullDomains(4, 2), "[[0 3] [1 3]]", "[{0 1 0} {0 2 0} {1 0 0} {1 2 0}]")
	wantArcs(t, x, "2 1:100", fullDomains(4, 2), "[[2 3] [1 3]]", "[{1 0 0} {1 2 0} {0 0 0} {0 1 0}]")
	wantArcs(t, x, "1 1:000", fullDomains(4, 1), "[[3]]", "[{0 0 0} {0 1 0} {0 2 0}]")
	wantArcs(t, x, "1 2:00", fullDomains(4, 1), "[[0 1 2 3]]", "[]")
	wantArcs(t, x, "2 3:0101", fullDomains(4, 2), "[[0 1] [1 2]]", "[{0 2 0} {0 3 0} {1 0 0} {1 3 0}]")
	wantArcs(t, x, "2 3:0011", fullDomains(4, 2), "[[] []]", "[{0 0 0} {0 1 0} {0 2 0} {0 3 0} {1 0 0} {1 1 0} {1 2 0} {1 3 0}]")
	wantArcs(t, less(), "1 0:00", fullDomains(4, 1), "[[]]", "[{0 0 0} {0 1 0} {0 2 0} {0 3 0}]")
	wantArcs(t, less(), "2 0:11", fullDomains(4, 2), "[[0 1 2 3] []]", "[{1 0 0} {1 1 0} {1 2 0} {1 3 0}]")
}

func TestArcsFromOtherDomains(t *testing.T) {
	wantArcs(t, less(), "2 0:01", [][]int64{{1, 2}, {0, 2}}, "[[1] [2]]", "[{0 2 0} {1 0 0}]")
	wantArcs(t, less(), "3 0:01 0:12", [][]int64{{2, 3}, {1, 2, 3}, {0, 1, 2}}, "[[] [] []]", "[{0 3 0} {1 1 0} {1 2 0} {1 3 1} {2 0 1} {2 1 1} {2 2 1} {0 2 0}]")
	wantArcs(t, example(), "3 0:01 0:12 1:0", [][]int64{{1}, {0}, {1}}, "[[1] [0] [1]]", "[]")
	wantArcs(t, example(), "3 0:01", [][]int64{{0}, {0, 1}, {0}}, "[[0] [1] [0]]", "[{1 0 0}]")
	// an empty domain takes all values of those that stand in a constraint with it
	wantArcs(t, example(), "3 0:01 0:12 1:0", [][]int64{{0, 1}, {}, {0, 1}}, "[[] [] []]", "[{0 0 0} {0 1 0} {2 0 1} {2 1 1}]")
	wantArcs(t, example(), "4 0:01 0:23", [][]int64{{}, {0, 1}, {1}, {0, 1}}, "[[] [] [1] [0]]", "[{1 0 0} {1 1 0} {3 1 1}]")
	wantArcs(t, example(), "3 0:12", [][]int64{{}, {0, 1}, {0, 1}}, "[[] [0 1] [0 1]]", "[]")
	wantArcs(t, example(), "3 0:01 0:12 0:20", [][]int64{{}, {}, {}}, "[[] [] []]", "[]")
	wantArcs(t, example(), "1", [][]int64{{}}, "[[]]", "[]")
	// relations without tuples
	empty := template(t, "3/2/1 1")
	wantArcs(t, empty, "2 0:10", fullDomains(3, 2), "[[] []]", "[{1 0 0} {1 1 0} {1 2 0} {0 0 0} {0 1 0} {0 2 0}]")
	wantArcs(t, empty, "3 1:2 0:00", [][]int64{{1}, {0, 2}, {0, 1}}, "[[] [0 2] [1]]", "[{2 0 0} {0 1 1}]")
	wantArcs(t, impl.Template{Size: 1}, "10", fullDomains(1, 10), "[[0] [0] [0] [0] [0] [0] [0] [0] [0] [0]]", "[]")
	// MaxCons constraints and MaxInstanceVars variables
	wantCall(t, "MakeArcs", []any{"[[0 1] [1] [0 1] [0 1] [0 1] [0 1] [0 1] [0 1] [0 1] [0]]", "[{1 0 23} {9 1 0}]", 0}, impl.MakeArcs, example(), instance("10"+repeated(" 0:91", 23)+" 1:1"), fullDomains(2, 10))
}

func TestStepsThatAreNotRight(t *testing.T) {
	x := colours()
	full := fullDomains(2, 3)
	right := impl.ArcStep{Var: 0, Value: 0, Con: 2}
	wrongSteps := []impl.ArcStep{
		{Var: 0, Value: 0, Con: 2},                             // a value that has gone already
		{Var: 0, Value: 1, Con: 2}, {Var: 0, Value: 1, Con: 0}, // one that has a support
		{Var: 1, Value: 0, Con: 0}, {Var: 2, Value: 0, Con: 1}, {Var: 2, Value: 1, Con: 1},
		{Var: 1, Value: 1, Con: 1},                                                         // one that has no support in another constraint
		{Var: 2, Value: 0, Con: 0}, {Var: 2, Value: 1, Con: 2}, {Var: 1, Value: 1, Con: 2}, // a variable that is not in the scope
		{Var: 3, Value: 0, Con: 2}, {Var: 1, Value: 2, Con: 0}, {Var: 1, Value: 3, Con: 0}, {Var: 1, Value: 4, Con: 0}, {Var: 1, Value: 1, Con: 3},
	}
	for _, number := range farAway {
		wrongSteps = append(wrongSteps, impl.ArcStep{Var: number, Value: 1, Con: 0}, impl.ArcStep{Var: 1, Value: number, Con: 0}, impl.ArcStep{Var: 1, Value: 1, Con: number}, impl.ArcStep{Var: number, Value: number, Con: number})
	}
	for _, step := range wrongSteps {
		if step != right {
			wantCall(t, "ReplayArcs", []any{"[]", 0, impl.ErrProof}, impl.ReplayArcs, example(), x, full, []impl.ArcStep{step})
		}
		wantCall(t, "ReplayArcs", []any{"[]", 1, impl.ErrProof}, impl.ReplayArcs, example(), x, full, []impl.ArcStep{right, step})
		wantCall(t, "ReplayArcs", []any{"[]", 1, impl.ErrProof}, impl.ReplayArcs, example(), x, full, []impl.ArcStep{right, step, {Var: 1, Value: 1, Con: 0}})
	}
	// the first wrong step is told, whatever follows
	steps := []impl.ArcStep{right, {Var: 1, Value: 1, Con: 0}, {Var: 2, Value: 0, Con: 1}, right, {Var: -1}}
	for end, left := range []string{"[[0 1] [0 1] [0 1]]", "[[1] [0 1] [0 1]]", "[[1] [0] [0 1]]", "[[1] [0] [1]]"} {
		wantCall(t, "ReplayArcs", []any{left, 0, 0}, impl.ReplayArcs, example(), x, full, steps[:end])
	}
	wantCall(t, "ReplayArcs", []any{"[]", 3, impl.ErrProof}, impl.ReplayArcs, example(), x, full, steps[:4])
	wantCall(t, "ReplayArcs", []any{"[]", 3, impl.ErrProof}, impl.ReplayArcs, example(), x, full, steps)
	// a value that the domains do not have is none that is left
	wantCall(t, "ReplayArcs", []any{"[]", 0, impl.ErrProof}, impl.ReplayArcs, example(), x, [][]int64{{1}, {0, 1}, {0, 1}}, steps)
	wantCall(t, "ReplayArcs", []any{"[[1] [0] [0 1]]", 0, 0}, impl.ReplayArcs, example(), x, [][]int64{{1}, {0, 1}, {0, 1}}, steps[1:2])
	wantCall(t, "ReplayArcs", []any{"[]", 0, impl.ErrProof}, impl.ReplayArcs, example(), instance("3"), full, steps)
	wantCall(t, "ReplayArcs", []any{full, 0, 0}, impl.ReplayArcs, example(), instance("3"), full, nil)
}

// badDomains are not valid for instances with three variables of the size 2.
func badDomains() [][][]int64 {
	list := [][][]int64{
		nil, {}, {{0, 1}}, {{0, 1}, {0, 1}}, {{0, 1}, {0, 1}, {0, 1}, {0, 1}}, {{0, 1}, {0, 1}, {0, 1}, {}}, {nil, nil},
		{{1, 0}, {0, 1}, {0, 1}}, {{0, 1}, {0, 0}, {0, 1}}, {{0, 1}, {0, 1}, {1, 1}}, {{0, 1}, {0, 1, 1}, {0, 1}}, {{0, 1}, {0, 1, 0}, {0, 1}},
		{{2}, {0, 1}, {0, 1}}, {{0, 1}, {0, 1, 2}, {0, 1}}, {{0, 1}, {0, 1}, {-1, 0}}, {{}, {}, {0, 4}},
	}
	for _, number := range farAway {
		list = append(list, [][]int64{{0, 1}, {number}, {0, 1}}, [][]int64{{0, 1}, {}, {0, number}}, [][]int64{{number, 1}, {}, {}})
	}
	return list
}

func TestValidDomains(t *testing.T) {
	for _, domains := range [][][]int64{{{0, 1}, {0, 1}, {0, 1}}, {{0}, {1}, {}}, {{}, {}, {}}, {nil, {0, 1}, nil}} {
		wantCall(t, "ValidDomains", []any{true}, impl.ValidDomains, example(), colours(), domains)
		checkArcs(t, example(), colours(), domains)
	}
	for _, domains := range badDomains() {
		wantCall(t, "ValidDomains", []any{false}, impl.ValidDomains, example(), colours(), domains)
		wantCode(t, "MakeArcs", impl.ErrInvalid, impl.MakeArcs, example(), colours(), domains)
		wantCode(t, "IsArcConsistent", impl.ErrInvalid, impl.IsArcConsistent, example(), colours(), domains)
		for _, steps := range [][]impl.ArcStep{nil, {{Var: 0, Value: 0, Con: 2}}, {{Var: -1}}} {
			wantCode(t, "ReplayArcs", impl.ErrInvalid, impl.ReplayArcs, example(), colours(), domains, steps)
		}
	}
	// validity hangs on the size
	wantCall(t, "ValidDomains", []any{true}, impl.ValidDomains, impl.Template{Size: 4}, instance("1"), [][]int64{{0, 3}})
	wantCall(t, "ValidDomains", []any{false}, impl.ValidDomains, impl.Template{Size: 3}, instance("1"), [][]int64{{0, 3}})
	for _, number := range []int64{math.MinInt64, -1, 4, math.MaxInt64} {
		wantCall(t, "ValidDomains", []any{false}, impl.ValidDomains, impl.Template{Size: 4}, instance("1"), [][]int64{{number}})
	}
}
