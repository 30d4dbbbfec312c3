package tests

import (
	"math"
	"math/rand/v2"
	"slices"
	"testing"

	"loop.example/g01085/impl"
)

// roomyLines returns the same lines in a slice that has capacity left.
func roomyLines(list []impl.Line) []impl.Line {
	room := append(make([]impl.Line, 0, len(list)+2), list...)
	copy(room[len(room):cap(room)], []impl.Line{{Kind: 9}, {Var: 9}})
	return room
}

// isRightLine tells by the definition whether a line is right in a level with
// some domains.
func isRightLine(x impl.Template, y impl.Instance, domains [][]int64, l impl.Line) bool {
	if l.Var < 0 || l.Var >= y.Vars {
		return false
	}
	values := domains[l.Var]
	switch l.Kind {
	case impl.LnChoose:
		return slices.Contains(values, l.Value) && len(values) > 1
	case impl.LnRemove:
		step := impl.ArcStep{Var: l.Var, Value: l.Value, Con: l.Con}
		return replayBy(x, y, domains, []impl.ArcStep{step})[2] == 0
	case impl.LnEmpty:
		return len(values) == 0
	}
	return false
}

// walkLines follows lines by the definition. It returns the domains of the levels
// that have not ended, from the level 0 on, and how many lines are right, one
// after the other.
func walkLines(x impl.Template, y impl.Instance, list []impl.Line) ([][][]int64, int) {
	levels := [][][]int64{fullDomains(x.Size, y.Vars)}
	var choices []impl.Line
	for i, l := range list {
		top := len(levels) - 1
		if top < 0 || !isRightLine(x, y, levels[top], l) {
			return levels, i
		}
		switch l.Kind {
		case impl.LnChoose:
			above := slices.Clone(levels[top])
			above[l.Var] = []int64{l.Value}
			levels, choices = append(levels, above), append(choices, l)
		case impl.LnRemove:
			levels[top] = without(levels[top], l.Var, l.Value)
		case impl.LnEmpty:
			levels = levels[:top]
			if top > 0 {
				choice := choices[top-1]
				levels[top-1] = without(levels[top-1], choice.Var, choice.Value)
				choices = choices[:top-1]
			}
		}
	}
	return levels, len(list)
}

// namedBy returns the constraints that lines name, in ascending order.
func namedBy(list []impl.Line) []int64 {
	var named []int64
	for _, l := range list {
		if l.Kind == impl.LnRemove {
			named = append(named, l.Con)
		}
	}
	slices.Sort(named)
	return slices.Compact(named)
}

// checkLines compares what is said of lines with the definition, and reports
// whether they are a refutation.
func checkLines(t *testing.T, x impl.Template, y impl.Instance, list []impl.Line) bool {
	t.Helper()
	levels, right := walkLines(x, y, list)
	code, domainsCode := impl.ErrProof, impl.ErrProof
	var domains [][]int64
	number := right
	if right == len(list) {
		if number = len(levels) - 1; number < 0 {
			code, domainsCode, number = impl.OK, impl.ErrState, 0
		} else {
			domainsCode, domains = impl.OK, levels[number]
		}
	}
	wantCall(t, "CheckRefutation", []any{right, code}, impl.CheckRefutation, roomyTemplate(x), roomyInstance(y), roomyLines(list))
	wantCall(t, "DomainsAfter", []any{domains, number, domainsCode}, impl.DomainsAfter, roomyTemplate(x), roomyInstance(y), roomyLines(list))
	if code != impl.OK {
		wantCode(t, "ConsOfRefutation", int64(code), impl.ConsOfRefutation, x, y, list)
		return false
	}
	wantCall(t, "ConsOfRefutation", []any{namedBy(list), 0}, impl.ConsOfRefutation, roomyTemplate(x), roomyInstance(y), roomyLines(list))
	return true
}

// checkDepth compares the depth of lines with the definition.
func checkDepth(t *testing.T, list []impl.Line) {
	t.Helper()
	level, highest := int64(0), int64(0)
	for _, l := range list {
		if level < 0 {
			wantCode(t, "DepthOf", impl.ErrState, impl.DepthOf, roomyLines(list))
			return
		}
		if l.Kind == impl.LnChoose {
			level++
		}
		if l.Kind == impl.LnEmpty {
			level--
		}
		highest = max(highest, level)
	}
	wantCall(t, "DepthOf", []any{highest, 0}, impl.DepthOf, roomyLines(list))
}

// nearLines returns lists that differ from one in one line.
func nearLines(source *rand.Rand, x impl.Template, y impl.Instance, list []impl.Line) [][]impl.Line {
	var near [][]impl.Line
	for i := range list {
		near = append(near, list[:i], list[i:], slices.Delete(slices.Clone(list), i, i+1))
		near = append(near, slices.Insert(slices.Clone(list), i, list[i]), slices.Insert(slices.Clone(list), i, list[source.IntN(len(list))]))
		changed := slices.Clone(list)
		switch source.IntN(4) {
		case 0:
			changed[i].Kind = source.Int64N(5)
		case 1:
			changed[i].Var = source.Int64N(y.Vars+2) - 1
		case 2:
			changed[i].Value = source.Int64N(x.Size+2) - 1
		case 3:
			changed[i].Con = source.Int64N(int64(len(y.Cons))+2) - 1
		}
		near = append(near, changed)
		if i > 0 {
			swapped := slices.Clone(list)
			swapped[i-1], swapped[i] = swapped[i], swapped[i-1]
			near = append(near, swapped)
		}
	}
	return append(near, append(slices.Clone(list), list...))
}

// eachRefuted runs a check for refutations that are not too long.
func eachRefuted(seed uint64, count int, check func(x impl.Template, y impl.Instance, list []impl.Line)) {
	each := func(x impl.Template, y impl.Instance) {
		if s, _, code := seekBy(x, y, fullDomains(x.Size, y.Vars), 5000); code == impl.ErrNotFound && len(s.lines) <= 45 {
			check(x, y, s.lines)
		}
	}
	eachInstance(seed, 300, each)
	eachHard(seed, count, each)
}

func TestLinesByDefinition(t *testing.T) {
	source := rand.New(rand.NewPCG(83, 8))
	refutations, others := 0, 0
	eachRefuted(83, 90, func(x impl.Template, y impl.Instance, list []impl.Line) {
		if !checkLines(t, x, y, list) {
			t.Errorf("the lines %s of %s are none", shortLines(list), shortOf(y))
		}
		checkDepth(t, list)
		for _, near := range nearLines(source, x, y, list) {
			checkDepth(t, near)
			if checkLines(t, x, y, near) {
				refutations++
			} else {
				others++
			}
		}
	})
	if refutations < 10 || others < 1000 {
		t.Errorf("only %d near refutations, and %d others", refutations, others)
	}
}

// wantLines checks where the first line is that is not right, of lines that are
// no refutation.
func wantLines(t *testing.T, x impl.Template, short string, list []impl.Line, at int) {
	t.Helper()
	wantCall(t, "CheckRefutation", []any{at, impl.ErrProof}, impl.CheckRefutation, x, instance(short), list)
	checkLines(t, x, instance(short), list)
}

const triangleShort = "3 0:01 0:02 0:12"

func TestLinesOfTheExample(t *testing.T) {
	list := lines("c00 r100 r201 r112 e1 r110 r211 r102 e1")
	for end := range list {
		wantLines(t, swap(), triangleShort, list[:end], end)
		wantLines(t, swap(), triangleShort, append(slices.Clone(list), list[end]), 9)
	}
	for i, at := range []int{0, 3, 2, 3, 4, 7, 6, 7} {
		wantLines(t, swap(), triangleShort, slices.Delete(slices.Clone(list), i, i+1), at)
	}
	for i := range list {
		at := i + 1
		if list[i].Kind == impl.LnEmpty {
			at = min(i+1, 9) // the level below has no empty domain, and the level 0 has ended
		}
		wantLines(t, swap(), triangleShort, slices.Insert(slices.Clone(list), i, list[i]), at)
	}
	for short, at := range map[string]int{
		"c02": 0, "c04": 0, "c30": 0, "c90": 0, "e0": 0, "e3": 0, "r000": 0, "r100": 0,
		// a choice of the only value left, of one that has gone, and of another variable
		"c00 c00": 1, "c00 c01": 1, "c00 c10": 2, "c00 r100 c11": 2, "c00 r100 c10": 2, "c00 c10 c20": 3,
		// a value that is removed twice, or by a constraint in which the variable is not, or which is none
		"c00 r100 r100": 2, "c00 r102": 1, "c00 r101": 1, "c00 r103": 1, "c00 r109": 1, "c00 r110": 1, "c00 r300": 1, "c00 r120": 1,
		// an end of a domain that is not empty
		"c00 e0": 1, "c00 e1": 1, "c00 r100 e1": 2, "c00 r100 r201 r112 e2": 4, "c00 r100 r201 r112 e3": 4,
		// the value that was chosen has gone in the level below, and nothing else
		"c00 r100 r201 r112 e1 c00": 5, "c00 r100 r201 r112 e1 c01": 5, "c00 r100 r201 r112 e1 r000": 5, "c00 r100 r201 r112 e1 r100": 5, "c00 r100 r201 r112 e1 c10": 6, "c00 r100 r201 r112 e1 e1": 5,
		// lines behind the last value of a domain
		"c00 r100 r201 r112 r212": 5, "c00 r100 r201 r112 r212 e2": 6, "c00 r100 r201 r112 c20": 4, "c00 r100 r201 r112 r000 r010": 5,
	} {
		wantLines(t, swap(), triangleShort, lines(short), at)
	}
	// lines that a search does not make
	for _, short := range []string{
		"c00 r100 r201 r112 r212 e2 r110 r211 r102 e1", "c00 r100 r201 r212 e2 r110 r211 r202 e2", "c00 r100 r201 r112 r212 r000 e0 r110 r211 r202 r102 r010 e0",
		"c11 r010 r212 r001 e0 c20 r001 r011 e0 r102 r011 r001 e0",
		"c00 c10 r000 e0 r201 r212 e2 r110 r211 r102 e1",
	} {
		checkLines(t, swap(), instance(triangleShort), lines(short))
	}
	wantCall(t, "CheckRefutation", []any{10, 0}, impl.CheckRefutation, swap(), triangle(), lines("c00 r100 r201 r112 r212 e2 r110 r211 r102 e1"))
	wantCall(t, "CheckRefutation", []any{11, 0}, impl.CheckRefutation, swap(), triangle(), lines("c00 c10 r000 e0 r201 r212 e2 r110 r211 r102 e1"))
	// a refutation of some constraints is one of all, but not of fewer
	wantCall(t, "CheckRefutation", []any{9, 0}, impl.CheckRefutation, swap(), instance("4 0:01 0:02 0:12 0:13 0:23"), list)
	wantCall(t, "ConsOfRefutation", []any{"[0 1 2]", 0}, impl.ConsOfRefutation, swap(), instance("4 0:01 0:02 0:12 0:13 0:23"), list)
	wantLines(t, swap(), "3 0:01 0:02", list, 3)
}

func TestLinesThatAreNone(t *testing.T) {
	list := lines("c00 r100 r201 r112 e1 r110 r211 r102 e1")
	for _, number := range []int64{math.MinInt64, -1, 3, 4, 999, 1000, math.MaxInt64} {
		for at := range list {
			for field := range 4 {
				changed := slices.Clone(list)
				*[]*int64{&changed[at].Kind, &changed[at].Var, &changed[at].Value, &changed[at].Con}[field] = number
				checkLines(t, swap(), triangle(), changed)
				checkDepth(t, changed)
				isUsed := field < []int{0, 3, 4, 2}[list[at].Kind] && changed[at] != list[at]
				if isUsed {
					wantLines(t, swap(), triangleShort, changed, at)
				}
			}
		}
	}
	// what a kind does not use does not say anything: a line is right as far as it is told
	unused := slices.Clone(list)
	unused[0].Con, unused[4].Value, unused[8].Con = 7, 7, 1000
	wantCall(t, "CheckRefutation", []any{9, 0}, impl.CheckRefutation, swap(), triangle(), unused)
	wantCall(t, "ConsOfRefutation", []any{"[0 1 2]", 0}, impl.ConsOfRefutation, swap(), triangle(), unused)
	wantCall(t, "RefutationText", []any{""}, impl.RefutationText, unused)
	for _, kind := range []int64{0, 4, -1, 1000, math.MaxInt64, math.MinInt64} {
		wantLines(t, swap(), triangleShort, []impl.Line{{Kind: kind}}, 0)
		wantLines(t, swap(), triangleShort, append(slices.Clone(list), impl.Line{Kind: kind}), 9)
		// such a line neither begins nor ends a level
		none := impl.Line{Kind: kind}
		wantCall(t, "DepthOf", []any{0, 0}, impl.DepthOf, []impl.Line{none, none})
		wantCall(t, "DepthOf", []any{2, 0}, impl.DepthOf, []impl.Line{none, list[0], none, list[0], none, list[4], none})
		wantCode(t, "DepthOf", impl.ErrState, impl.DepthOf, []impl.Line{list[4], none})
	}
}

func TestVariablesThatComeSeveralTimes(t *testing.T) {
	x := template(t, "2/2 01 10/3 001 010 100/2 00 01")
	for _, short := range []string{"r000 r010 e0", "r010 r000 e0"} {
		same(t, "checkLines", checkLines(t, x, instance("1 0:00"), lines(short)), true)
	}
	same(t, "checkLines", checkLines(t, x, instance("2 1:010 1:101"), lines("r000 r101 r010 e0")), false)
	same(t, "checkLines", checkLines(t, x, instance("2 1:010 1:111"), lines("r101 r111 e1")), true)
	// the value 0 has a support at one place of the scope by itself, but not with equal values
	wantLines(t, x, "2 1:110", lines("r100"), 0)
	wantLines(t, x, "2 1:110", lines("r110 r000 c00"), 2)
	wantLines(t, x, "1 2:00", lines("r010 r000"), 1)
}

func TestDomainsBehindLines(t *testing.T) {
	list := lines("c00 r100 r201 r112 e1 r110 r211 r102 e1")
	for end, want := range []string{
		"[[0 1] [0 1] [0 1]] 0", "[[0] [0 1] [0 1]] 1", "[[0] [1] [0 1]] 1", "[[0] [1] [1]] 1", "[[0] [] [1]] 1",
		"[[1] [0 1] [0 1]] 0", "[[1] [0] [0 1]] 0", "[[1] [0] [0]] 0", "[[1] [] [0]] 0",
	} {
		results := call(t, impl.DomainsAfter, swap(), triangle(), list[:end])
		same(t, "DomainsAfter", results, "["+want+" 0]")
	}
	wantCall(t, "DomainsAfter", []any{"[]", 0, impl.ErrState}, impl.DomainsAfter, swap(), triangle(), list)
	wantCall(t, "DomainsAfter", []any{"[]", 9, impl.ErrProof}, impl.DomainsAfter, swap(), triangle(), append(slices.Clone(list), list[0]))
}

func TestDepths(t *testing.T) {
	for short, want := range map[string]int{
		"": 0, "e0": 0, "c00": 1, "r000": 0, "c00 c00 c00": 3, "c00 e0": 1, "c00 e0 e0": 1, "c00 e0 c00 c00 e0 c00": 2, "c00 c00 e0 e0 c00 e0 e0": 2, "r000 c00 r000 e0 r000 e0": 1, "c99 r999 e9 e9": 1,
	} {
		wantCall(t, "DepthOf", []any{want, 0}, impl.DepthOf, lines(short))
		checkDepth(t, lines(short))
	}
	for _, short := range []string{"e0 e0", "e0 c00", "e0 r000", "c00 e0 e0 e0", "c00 e0 e0 r000", "c00 c00 e0 e0 e0 c00 c00 c00", "r000 e0 c00 e0 e0"} {
		wantCode(t, "DepthOf", impl.ErrState, impl.DepthOf, lines(short))
		checkDepth(t, lines(short))
	}
}

// hopeless is an instance in which the variables 0 and 1 stand in the relation
// without tuples, and the others in none.
func hopeless() (impl.Template, impl.Instance) {
	return impl.Template{Size: 4, Rels: []impl.Rel{{Arity: 2}}}, instance("10 0:01")
}

// longLines returns a refutation of hopeless of so many lines, 5 to 9 or more
// than 10, which begins in a level where the values of a variable from some value
// on are left, and all those of the variables behind it.
func longLines(count int, variable, value int64) []impl.Line {
	if count <= 9 {
		list := lines("r000 r010 r020 r030 r100 r110 r120 r130")[:count-1]
		return append(slices.Clone(list), impl.Line{Kind: impl.LnEmpty})
	}
	if value == 3 {
		return longLines(count, variable+1, 0)
	}
	above := max(5, (count-1)/int(4-value))
	for above == 10 || count-1-above == 10 || count-1-above < 5 {
		above--
	}
	list := []impl.Line{{Kind: impl.LnChoose, Var: variable, Value: value}}
	list = append(list, longLines(above, variable+1, 0)...)
	return append(list, longLines(count-1-above, variable, value+1)...)
}

func TestUpToMaxLines(t *testing.T) {
	x, y := hopeless()
	for _, count := range []int{5, 9, 11, 12, 100, 1000, 3999, 4000} {
		list := longLines(count, 2, 0)
		same(t, "how many lines", len(list), count)
		if count < 200 {
			same(t, "checkLines", checkLines(t, x, y, list), true)
		}
		wantCall(t, "CheckRefutation", []any{count, 0}, impl.CheckRefutation, x, y, roomyLines(list))
		wantCall(t, "ConsOfRefutation", []any{"[0]", 0}, impl.ConsOfRefutation, x, y, list)
		wantCode(t, "DomainsAfter", impl.ErrState, impl.DomainsAfter, x, y, list)
		wantCall(t, "CheckRefutation", []any{count - 1, impl.ErrProof}, impl.CheckRefutation, x, y, list[:count-1])
		domains := call(t, impl.DomainsAfter, x, y, list[:count-1])
		same(t, "level of the last line", domains[1:], []any{0, 0})
	}
	// one more
	list := longLines(4001, 2, 0)
	for _, list := range [][]impl.Line{list, append(slices.Clone(list), list...), make([]impl.Line, 4001), make([]impl.Line, 200000)} {
		wantCode(t, "CheckRefutation", impl.ErrLimit, impl.CheckRefutation, x, y, list)
		wantCode(t, "ConsOfRefutation", impl.ErrLimit, impl.ConsOfRefutation, x, y, list)
		wantCode(t, "DomainsAfter", impl.ErrLimit, impl.DomainsAfter, x, y, list)
		wantCode(t, "DepthOf", impl.ErrLimit, impl.DepthOf, list)
	}
	wantCall(t, "CheckRefutation", []any{4000, impl.ErrProof}, impl.CheckRefutation, x, y, list[:4000])
	wantCall(t, "CheckRefutation", []any{0, impl.ErrProof}, impl.CheckRefutation, x, y, make([]impl.Line, 4000))
	wantCall(t, "DepthOf", []any{4000, 0}, impl.DepthOf, slices.Repeat(lines("c00"), 4000))
	wantCall(t, "DepthOf", []any{2000, 0}, impl.DepthOf, append(slices.Repeat(lines("c00"), 2000), slices.Repeat(lines("e0"), 2000)...))
	wantCode(t, "DepthOf", impl.ErrState, impl.DepthOf, append(slices.Repeat(lines("c00"), 1999), slices.Repeat(lines("e0"), 2001)...))
	wantCode(t, "DepthOf", impl.ErrLimit, impl.DepthOf, slices.Repeat(lines("e0"), 4001))
}

func TestErrorsAheadOfLines(t *testing.T) {
	wantCode(t, "CheckRefutation", impl.ErrInvalid, impl.CheckRefutation, impl.Template{}, instance("1"), make([]impl.Line, 4001))
	wantCode(t, "DomainsAfter", impl.ErrInvalid, impl.DomainsAfter, impl.Template{}, instance("1"), make([]impl.Line, 4001))
	wantCode(t, "ConsOfRefutation", impl.ErrInvalid, impl.ConsOfRefutation, impl.Template{}, instance("1"), make([]impl.Line, 4001))
	for _, list := range [][]impl.Line{nil, lines("c00"), lines("e0 e0"), {{Kind: -1}}} {
		for _, x := range badTemplates() {
			wantCode(t, "CheckRefutation", impl.ErrInvalid, impl.CheckRefutation, x, instance("1"), list)
			wantCode(t, "DomainsAfter", impl.ErrInvalid, impl.DomainsAfter, x, instance("1"), list)
			wantCode(t, "ConsOfRefutation", impl.ErrInvalid, impl.ConsOfRefutation, x, instance("1"), list)
		}
		for _, y := range badInstances() {
			wantCode(t, "CheckRefutation", impl.ErrInvalid, impl.CheckRefutation, mixed(), y, list)
			wantCode(t, "DomainsAfter", impl.ErrInvalid, impl.DomainsAfter, mixed(), y, list)
			wantCode(t, "ConsOfRefutation", impl.ErrInvalid, impl.ConsOfRefutation, mixed(), y, list)
		}
	}
}
