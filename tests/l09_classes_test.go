package tests

import (
	"math"
	"math/rand/v2"
	"slices"
	"testing"

	"loop.example/g01085/impl"
)

// noClasses are numbers of classes that there are not.
var noClasses = []int64{0, 7, -1, 8, 100, math.MaxInt64, math.MinInt64}

// classOps returns the operations of all classes, at their numbers.
func classOps() []impl.Op {
	sum := func(list []int64) int64 { return (list[0] + list[1] + list[2]) % 2 }
	return []impl.Op{
		{},
		opWhere(2, 1, func([]int64) int64 { return 0 }),
		opWhere(2, 1, func([]int64) int64 { return 1 }),
		opWhere(2, 2, slices.Min[[]int64]),
		opWhere(2, 2, slices.Max[[]int64]),
		opWhere(2, 3, middle),
		opWhere(2, 3, sum),
	}
}

func TestClassOp(t *testing.T) {
	for class, f := range classOps() {
		if class > 0 {
			wantCall(t, "ClassOp", []any{f, 0}, impl.ClassOp, class)
		}
	}
	for i, text := range []string{"op 1 00", "op 1 11", "op 2 0001", "op 2 0111", "op 3 00010111", "op 3 01101001"} {
		f, code := impl.ClassOp(int64(i) + 1)
		same(t, "ClassOp", []any{impl.OpText(f), code}, []any{text, 0})
	}
	for _, class := range noClasses {
		wantCode(t, "ClassOp", impl.ErrRange, impl.ClassOp, class)
	}
}

// whyNotBy returns what WhyNotClass has to return, by the definition.
func whyNotBy(x impl.Template, class int64) []any {
	for i, r := range x.Rels {
		if list, made := breaksBy(2, classOps()[class], r); made != nil {
			return []any{i, list, made, 0}
		}
	}
	return []any{0, "[]", "[]", impl.ErrNotFound}
}

// checkClasses compares the classes of a template of the size 2 with the
// definition, and returns them.
func checkClasses(t *testing.T, x impl.Template) []int64 {
	t.Helper()
	var classes []int64
	for class := int64(1); class <= 6; class++ {
		why := whyNotBy(x, class)
		isOf := why[3] != 0
		if isOf {
			classes = append(classes, class)
		}
		wantCall(t, "IsOfClass", []any{isOf, 0}, impl.IsOfClass, roomyTemplate(x), class)
		wantCall(t, "WhyNotClass", why, impl.WhyNotClass, roomyTemplate(x), class)
	}
	wantCall(t, "ClassesOf", []any{classes, 0}, impl.ClassesOf, roomyTemplate(x))
	return classes
}

func TestClassesByDefinition(t *testing.T) {
	counts := map[int64]int{}
	check := func(x impl.Template) {
		for _, class := range checkClasses(t, x) {
			counts[class]++
		}
	}
	rels := append(allRels(2, 1), allRels(2, 2)...)
	for i, r := range rels {
		check(impl.Template{Size: 2, Rels: []impl.Rel{r}})
		for j := i % 3; j < len(rels); j += 3 {
			check(impl.Template{Size: 2, Rels: []impl.Rel{r, rels[j]}})
		}
	}
	for i, r := range allRels(2, 3) {
		if i%3 == 0 {
			check(impl.Template{Size: 2, Rels: []impl.Rel{r}})
		}
	}
	for _, f := range classOps()[1:] {
		for _, x := range closedTemplates(97, 2, 20, f) {
			check(x)
		}
	}
	for class := int64(1); class <= 6; class++ {
		if counts[class] < 40 {
			t.Errorf("only %d templates are of the class %d", counts[class], class)
		}
	}
}

// wantClasses checks the classes of a template.
func wantClasses(t *testing.T, short, want string) {
	t.Helper()
	x := template(t, short)
	wantCall(t, "ClassesOf", []any{want, 0}, impl.ClassesOf, x)
	checkClasses(t, x)
}

func TestKnownClasses(t *testing.T) {
	// no relations, empty ones, and full ones
	wantClasses(t, "2", "[1 2 3 4 5 6]")
	for _, text := range []string{"/1", "/2", "/3", "/4", "/1 0 1", "/2 00 01 10 11", "/3 000 001 010 011 100 101 110 111"} {
		wantClasses(t, "2"+text, "[1 2 3 4 5 6]")
		wantClasses(t, "2"+repeated(text, 6), "[1 2 3 4 5 6]")
		wantClasses(t, "2"+text+"/2 01 10", "[5 6]")
	}
	all := impl.Template{Size: 2, Rels: []impl.Rel{{Arity: 4, Tuples: listsOf(2, 4)}}}
	wantCall(t, "ClassesOf", []any{"[1 2 3 4 5 6]", 0}, impl.ClassesOf, all)
	// the values 0 and 1, and the order
	wantClasses(t, "2/1 0", "[1 3 4 5 6]")
	wantClasses(t, "2/1 1", "[2 3 4 5 6]")
	wantClasses(t, "2/1 0/1 1", "[3 4 5 6]")
	wantClasses(t, "2/2 00 11", "[1 2 3 4 5 6]")
	wantClasses(t, "2/2 00 01 11", "[1 2 3 4 5]")
	wantClasses(t, "2/2 00 01 10", "[1 3 5]")
	wantClasses(t, "2/2 01 10 11", "[2 4 5]")
	wantClasses(t, "2/2 01 10", "[5 6]")
	// of one class alone, and of none
	wantClasses(t, "2/3 000 001 010 100/1 0", "[1 3 5]")
	wantClasses(t, "2/3 000 001 010 011 100 101 110", "[1 3]")
	wantClasses(t, "2/3 000 001 010 011 100 101 110/1 1", "[3]")
	wantClasses(t, "2/3 001 010 011 100 101 110 111", "[2 4]")
	wantClasses(t, "2/3 001 010 011 100 101 110 111/1 0", "[4]")
	wantClasses(t, "2/3 000 011 101", "[1]")
	wantClasses(t, "2/3 010 100 111", "[2]")
	wantClasses(t, "2/3 001 010 100", "[]")
	wantClasses(t, "2/3 001 010 100 111", "[2 6]")
	wantClasses(t, "2/3 000 011 101 110/1 1", "[6]")
	wantClasses(t, "2/2 01 10/2 00 01 11", "[5]")
	wantClasses(t, "2/2 00 01 10/2 01 10 11", "[5]")
	wantClasses(t, "2/3 001 010 011 100 101 110", "[]")
}

// wantWhy checks why a template is not of a class.
func wantWhy(t *testing.T, short string, class, index int64, list, made string) {
	t.Helper()
	x := template(t, short)
	wantCall(t, "WhyNotClass", []any{index, list, made, 0}, impl.WhyNotClass, x, class)
	checkClasses(t, x)
}

func TestWhyNotClass(t *testing.T) {
	wantWhy(t, "2/2 01 10", impl.ClZero, 0, "[[0 1]]", "[0 0]")
	wantWhy(t, "2/2 01 10", impl.ClOne, 0, "[[0 1]]", "[1 1]")
	wantWhy(t, "2/2 01 10", impl.ClAnd, 0, "[[0 1] [1 0]]", "[0 0]")
	wantWhy(t, "2/2 01 10", impl.ClOr, 0, "[[0 1] [1 0]]", "[1 1]")
	wantWhy(t, "2/3 001 010 100", impl.ClMajority, 0, "[[0 0 1] [0 1 0] [1 0 0]]", "[0 0 0]")
	wantWhy(t, "2/3 001 010 100", impl.ClMinority, 0, "[[0 0 1] [0 1 0] [1 0 0]]", "[1 1 1]")
	wantWhy(t, "2/2 00 01 11", impl.ClMinority, 0, "[[0 0] [0 1] [1 1]]", "[1 0]")
	// the first relation that is not kept, though others follow
	wantWhy(t, "2/1/1 0/1 1/1 1", impl.ClZero, 2, "[[1]]", "[0]")
	wantWhy(t, "2/1/1 0/1 1/1 1", impl.ClOne, 1, "[[0]]", "[1]")
	wantWhy(t, "2/2 00 01 10/2 01 10/2 01 10 11", impl.ClAnd, 1, "[[0 1] [1 0]]", "[0 0]")
	wantWhy(t, "2/2 00 01 10/2 01 10/2 01 10 11", impl.ClOr, 0, "[[0 1] [1 0]]", "[1 1]")
	wantWhy(t, "2/1/1/1/1/1/2 00 10 11", impl.ClMinority, 5, "[[0 0] [1 0] [1 1]]", "[0 1]")
	// the first list of tuples, and not another one
	wantWhy(t, "2/3 000 011 101 110", impl.ClAnd, 0, "[[0 1 1] [1 0 1]]", "[0 0 1]")
	wantWhy(t, "2/3 000 011 101 110", impl.ClMajority, 0, "[[0 0 0] [0 1 1] [1 0 1]]", "[0 0 1]")
	wantWhy(t, "2/3 000 011 101 110", impl.ClOne, 0, "[[0 0 0]]", "[1 1 1]")
	for class := int64(1); class <= 6; class++ {
		wantCode(t, "WhyNotClass", impl.ErrNotFound, impl.WhyNotClass, impl.Template{Size: 2}, class)
		wantCode(t, "WhyNotClass", impl.ErrNotFound, impl.WhyNotClass, equality(), class)
	}
}

// wantClassCode checks the code of all functions of templates and classes.
func wantClassCode(t *testing.T, want int64, x impl.Template, class int64) {
	t.Helper()
	wantCode(t, "IsOfClass", want, impl.IsOfClass, x, class)
	wantCode(t, "WhyNotClass", want, impl.WhyNotClass, x, class)
	wantCode(t, "SolveByClass", want, impl.SolveByClass, x, instance("1"), class)
}

func TestErrorsOfClasses(t *testing.T) {
	for class := int64(-2); class <= 9; class++ {
		for _, bad := range badTemplates() {
			wantClassCode(t, impl.ErrInvalid, bad, class)
		}
		for _, size := range []int64{1, 3, 4} {
			wantClassCode(t, impl.ErrState, impl.Template{Size: size}, class)
			wantClassCode(t, impl.ErrState, impl.Template{Size: size, Rels: []impl.Rel{{Arity: 1, Tuples: [][]int64{{0}}}}}, class)
			wantClassCode(t, impl.ErrState, impl.Template{Size: size, Rels: []impl.Rel{{Arity: 2}}}, class)
		}
	}
	for _, class := range noClasses {
		wantClassCode(t, impl.ErrRange, impl.Template{Size: 2}, class)
		wantClassCode(t, impl.ErrRange, swap(), class)
		wantClassCode(t, impl.ErrRange, template(t, "2/1/3 001 010 100"), class)
		wantClassCode(t, impl.ErrState, round(), class)
		wantClassCode(t, impl.ErrInvalid, impl.Template{Size: 5}, class)
	}
	for _, bad := range badTemplates() {
		wantCode(t, "ClassesOf", impl.ErrInvalid, impl.ClassesOf, bad)
	}
	for _, x := range []impl.Template{{Size: 1}, {Size: 3}, {Size: 4}, round(), mixed(), graph(1, []int64{0, 0}), largest()} {
		wantCode(t, "ClassesOf", impl.ErrState, impl.ClassesOf, x)
	}
}

// paritiesBy returns the equations that all tuples of a relation fulfil, by the
// definition.
func paritiesBy(r impl.Rel) [][]int64 {
	var list [][]int64
	for _, e := range listsOf(2, r.Arity+1)[1:] {
		fails := func(tuple []int64) bool {
			sum := e[r.Arity]
			for place, value := range tuple {
				sum += e[place] * value
			}
			return sum%2 != 0
		}
		if !slices.ContainsFunc(r.Tuples, fails) {
			list = append(list, e)
		}
	}
	return list
}

func TestEquationsOver(t *testing.T) {
	counts := map[int]int{}
	check := func(r impl.Rel) {
		t.Helper()
		list := paritiesBy(r)
		counts[len(list)]++
		wantCall(t, "EquationsOver", []any{list, 0}, impl.EquationsOver, roomy(r))
	}
	for arity := int64(1); arity <= 3; arity++ {
		for _, r := range allRels(2, arity) {
			check(r)
		}
	}
	source := rand.New(rand.NewPCG(98, 9))
	for range 200 {
		check(closedRel(source, 2, 4, []impl.Op{affine(2)}, 1+source.IntN(5)))
		check(relWhere(2, 4, func([]int64) bool { return source.IntN(5) == 0 }))
	}
	for _, r := range someRels(2, 4) {
		check(r)
	}
	for _, count := range []int{0, 1, 3, 7, 15} {
		if counts[count] < 10 {
			t.Errorf("only %d relations have %d equations", counts[count], count)
		}
	}
	for arity := int64(1); arity <= 4; arity++ {
		wantCall(t, "EquationsOver", []any{listsOf(2, arity+1)[1:], 0}, impl.EquationsOver, impl.Rel{Arity: arity})
		wantCall(t, "EquationsOver", []any{"[]", 0}, impl.EquationsOver, impl.Rel{Arity: arity, Tuples: listsOf(2, arity)})
	}
	for text, want := range map[string]string{
		"rel 1 0": "[[1 0]]", "rel 1 1": "[[1 1]]", "rel 1": "[[0 1] [1 0] [1 1]]", "rel 1 0 1": "[]",
		"rel 2 00 11": "[[1 1 0]]", "rel 2 01 10": "[[1 1 1]]", "rel 2 00 01 11": "[]", "rel 2 01": "[[0 1 1] [1 0 0] [1 1 1]]", "rel 2 00 01": "[[1 0 0]]", "rel 2 01 11": "[[0 1 1]]",
		"rel 3 001 010 100 111": "[[1 1 1 1]]", "rel 3 000 011 101": "[[1 1 1 0]]", "rel 3 010 101": "[[0 1 1 1] [1 0 1 0] [1 1 0 1]]", "rel 3 001 010 100": "[[1 1 1 1]]",
		"rel 4 0001":      "[[0 0 0 1 1] [0 0 1 0 0] [0 0 1 1 1] [0 1 0 0 0] [0 1 0 1 1] [0 1 1 0 0] [0 1 1 1 1] [1 0 0 0 0] [1 0 0 1 1] [1 0 1 0 0] [1 0 1 1 1] [1 1 0 0 0] [1 1 0 1 1] [1 1 1 0 0] [1 1 1 1 1]]",
		"rel 4 0101 1010": "[[0 0 1 1 1] [0 1 0 1 0] [0 1 1 0 1] [1 0 0 1 1] [1 0 1 0 0] [1 1 0 0 1] [1 1 1 1 0]]",
	} {
		r, _ := impl.ReadRel(text)
		wantCall(t, "EquationsOver "+text, []any{want, 0}, impl.EquationsOver, r)
	}
	for _, bad := range badRels() {
		wantCode(t, "EquationsOver", impl.ErrInvalid, impl.EquationsOver, bad)
	}
	wantCode(t, "EquationsOver", impl.ErrInvalid, impl.EquationsOver, round().Rels[0])
}
