package tests

import (
	"fmt"
	"math"
	"math/rand/v2"
	"slices"
	"strings"
	"testing"

	"loop.example/g01085/impl"
)

// instance returns the instance that a short text tells, such as "3 0:01 1:2".
func instance(short string) impl.Instance {
	words := strings.Fields(short)
	var x impl.Instance
	fmt.Sscan(words[0], &x.Vars)
	for _, word := range words[1:] {
		c := impl.Con{Rel: int64(word[0] - '0')}
		for _, digit := range word[2:] {
			c.Scope = append(c.Scope, int64(digit-'0'))
		}
		x.Cons = append(x.Cons, c)
	}
	return x
}

// shortOf writes an instance down, such that instance tells it again.
func shortOf(x impl.Instance) string {
	text := fmt.Sprint(x.Vars)
	for _, c := range x.Cons {
		text += fmt.Sprint(" ", c.Rel, ":") + strings.Trim(strings.ReplaceAll(fmt.Sprint(c.Scope), " ", ""), "[]")
	}
	return text
}

// roomyInstance returns the same instance in slices that have capacity left.
func roomyInstance(x impl.Instance) impl.Instance {
	cons := make([]impl.Con, 0, len(x.Cons)+2)
	for _, c := range x.Cons {
		cons = append(cons, impl.Con{Rel: c.Rel, Scope: roomyList(c.Scope...)})
	}
	copy(cons[len(cons):cap(cons)], []impl.Con{{Rel: 9, Scope: []int64{9}}, {Rel: 8}})
	return impl.Instance{Vars: x.Vars, Cons: cons}
}

// example is the template of the example of chapter 5, and colours the instance
// of it.
func example() impl.Template {
	return impl.Template{Size: 2, Rels: []impl.Rel{{Arity: 2, Tuples: [][]int64{{0, 1}, {1, 0}}}, {Arity: 1, Tuples: [][]int64{{1}}}}}
}

func colours() impl.Instance { return instance("3 0:01 0:12 1:0") }

// randomInstance returns an instance of a template.
func randomInstance(source *rand.Rand, t impl.Template, vars int64, cons int) impl.Instance {
	x := impl.Instance{Vars: vars}
	for range cons {
		if len(t.Rels) == 0 {
			break
		}
		c := impl.Con{Rel: source.Int64N(int64(len(t.Rels)))}
		for range t.Rels[c.Rel].Arity {
			c.Scope = append(c.Scope, source.Int64N(vars))
		}
		x.Cons = append(x.Cons, c)
	}
	return x
}

// eachInstance runs a check for instances of many templates, with at most so
// many lists of values.
func eachInstance(seed uint64, most float64, check func(t impl.Template, x impl.Instance)) {
	source := rand.New(rand.NewPCG(seed, 5))
	for _, t := range append(someTemplates(), mixed(), example(), impl.Template{Size: 2, Rels: []impl.Rel{{Arity: 1}, {Arity: 3}}}) {
		for range 8 {
			vars := 1 + source.Int64N(6)
			for math.Pow(float64(t.Size), float64(vars)) > most {
				vars--
			}
			check(t, randomInstance(source, t, vars, source.IntN(6)))
		}
	}
}

// failingBy returns the first constraint that does not hold, by the definition.
func failingBy(t impl.Template, x impl.Instance, values []int64) int {
	return slices.IndexFunc(x.Cons, func(c impl.Con) bool {
		isThere := func(tuple []int64) bool { return slices.Equal(tuple, at(values, c.Scope)) }
		return !slices.ContainsFunc(t.Rels[c.Rel].Tuples, isThere)
	})
}

// solutionsBy returns all solutions, by the definition.
func solutionsBy(t impl.Template, x impl.Instance) [][]int64 {
	var list [][]int64
	for _, values := range listsOf(t.Size, x.Vars) {
		if failingBy(t, x, values) < 0 {
			list = append(list, values)
		}
	}
	return list
}

func TestExampleOfChapter5(t *testing.T) {
	x := colours()
	full := [][]int64{{0, 1}, {0, 1}, {0, 1}}
	wantCall(t, "ValidInstance", []any{true}, impl.ValidInstance, example(), x)
	wantCall(t, "AllSolutions", []any{"[[1 0 1]]", 0}, impl.AllSolutions, example(), x)
	wantCall(t, "FirstSolution", []any{"[1 0 1]", 0}, impl.FirstSolution, example(), x)
	wantCall(t, "CountSolutions", []any{1, 0}, impl.CountSolutions, example(), x)
	wantCall(t, "FullDomains", []any{full, 0}, impl.FullDomains, example(), x)
	wantCall(t, "MakeArcs", []any{"[[1] [0] [1]]", "[{0 0 2} {1 1 0} {2 0 1}]", 0}, impl.MakeArcs, example(), x, full)
	y := instance("3 0:01 0:12 1:0 0:02")
	wantCall(t, "AllSolutions", []any{"[]", 0}, impl.AllSolutions, example(), y)
	wantCall(t, "CountSolutions", []any{0, 0}, impl.CountSolutions, example(), y)
	wantCall(t, "FirstSolution", []any{"[]", impl.ErrNotFound}, impl.FirstSolution, example(), y)
}

func TestNumbersOfChapter5(t *testing.T) {
	same(t, "limits", []int64{impl.MaxInstanceVars, impl.MaxCons, impl.MaxListed}, []int64{10, 24, 200})
}

// goodInstances are valid for the template mixed, whose relations have the
// arities 2, 1, 3 and 4.
func goodInstances() []impl.Instance {
	var list []impl.Instance
	for _, text := range []string{
		"1", "2", "9", "10", "1 1:0", "1 0:00 1:0 2:000 3:0000", "2 0:01", "2 0:10", "10 0:90 1:9 2:098 3:9876", "4 3:0123", "4 3:3210 3:3210",
		"10" + repeated(" 3:6789", 24), "1" + repeated(" 1:0", 24), "3" + repeated(" 0:12 2:210", 12),
	} {
		list = append(list, instance(text))
	}
	return list
}

// badInstances are not valid for the template mixed.
func badInstances() []impl.Instance {
	list := []impl.Instance{{}, {Vars: 11}, {Vars: -1}, {Vars: 11, Cons: []impl.Con{{Rel: 1, Scope: []int64{10}}}}, {Vars: 10, Cons: []impl.Con{{Rel: 1, Scope: []int64{10}}}}, {Cons: []impl.Con{{Rel: 1, Scope: []int64{0}}}}}
	for _, number := range farAway {
		list = append(list, impl.Instance{Vars: number})
		list = append(list, impl.Instance{Vars: 2, Cons: []impl.Con{{Rel: 0, Scope: []int64{0, number}}}})
		list = append(list, impl.Instance{Vars: 2, Cons: []impl.Con{{Rel: 1, Scope: []int64{0}}, {Rel: 0, Scope: []int64{number, 1}}}})
	}
	for _, rel := range append([]int64{4, 5}, noRels...) {
		list = append(list, impl.Instance{Vars: 2, Cons: []impl.Con{{Rel: rel, Scope: []int64{0, 1}}}})
		list = append(list, impl.Instance{Vars: 2, Cons: []impl.Con{{Rel: 1, Scope: []int64{0}}, {Rel: rel, Scope: []int64{0}}}})
	}
	for _, text := range []string{
		"0", "2 0:", "2 0:0", "2 0:010", "2 1:", "2 1:00", "2 2:00", "2 2:0000", "4 3:012", "5 3:01234",
		"1 0:01", "1 0:10", "2 0:02", "2 0:20", "2 1:2", "3 2:013", "9 3:0129", "3 0:01 0:12 0:13", "3 0:01 1:", "8 0:08",
		"2" + repeated(" 0:01", 25), "1" + repeated(" 1:0", 25), "1" + repeated(" 1:0", 60),
	} {
		list = append(list, instance(text))
	}
	return list
}

func TestValidInstance(t *testing.T) {
	for _, x := range goodInstances() {
		wantCall(t, "ValidInstance", []any{true}, impl.ValidInstance, roomyTemplate(mixed()), roomyInstance(x))
	}
	for _, x := range badInstances() {
		wantCall(t, "ValidInstance", []any{false}, impl.ValidInstance, mixed(), x)
	}
	for _, x := range badTemplates() {
		wantCall(t, "ValidInstance", []any{false}, impl.ValidInstance, x, instance("1"))
		wantCall(t, "ValidInstance", []any{false}, impl.ValidInstance, x, instance("2 0:01"))
	}
	for i := range 6 {
		x := impl.Instance{Vars: 10, Cons: []impl.Con{{Rel: int64(i), Scope: []int64{0, 9, 4, 3}}}}
		wantCall(t, "ValidInstance", []any{true}, impl.ValidInstance, largest(), x)
		fewer := impl.Template{Size: 4, Rels: largest().Rels[:i]}
		wantCall(t, "ValidInstance", []any{false}, impl.ValidInstance, fewer, x)
	}
	// a template without relations has instances without constraints
	for size := int64(1); size <= 4; size++ {
		wantCall(t, "ValidInstance", []any{true}, impl.ValidInstance, impl.Template{Size: size}, instance("10"))
		wantCall(t, "ValidInstance", []any{false}, impl.ValidInstance, impl.Template{Size: size}, instance("2 0:01"))
		wantCall(t, "ValidInstance", []any{false}, impl.ValidInstance, impl.Template{Size: size}, impl.Instance{Vars: 2, Cons: []impl.Con{{}}})
	}
	eachInstance(1, 1e9, func(x impl.Template, y impl.Instance) {
		wantCall(t, "ValidInstance", []any{true}, impl.ValidInstance, x, y)
	})
}

func TestSameInstance(t *testing.T) {
	list := append(goodInstances(), badInstances()...)
	for _, x := range list {
		for _, y := range list {
			wantCall(t, "SameInstance", []any{fmt.Sprint(x) == fmt.Sprint(y)}, impl.SameInstance, x, y)
		}
		wantCall(t, "SameInstance", []any{true}, impl.SameInstance, roomyInstance(x), x)
	}
	for _, other := range []string{"4 0:01 0:12 1:0", "3 0:12 0:01 1:0", "3 0:01 0:12", "3 0:01 0:12 1:1", "3 0:01 1:12 1:0", "3 0:01 0:12 1:0 1:0", "3 0:01 0:21 1:0", "3 0:01 0:12 1:", "3 0:01 0:12 1:00"} {
		wantCall(t, "SameInstance", []any{false}, impl.SameInstance, colours(), instance(other))
	}
	wantCall(t, "SameInstance", []any{true}, impl.SameInstance, impl.Instance{Cons: []impl.Con{{Scope: []int64{}}}}, impl.Instance{Cons: []impl.Con{{}}})
	wantCall(t, "SameInstance", []any{true}, impl.SameInstance, impl.Instance{Cons: []impl.Con{}}, impl.Instance{})
	wantCall(t, "SameInstance", []any{false}, impl.SameInstance, impl.Instance{Cons: []impl.Con{{}}}, impl.Instance{})
}

// checkSolutions compares what is said of the solutions of an instance with the
// definition.
func checkSolutions(t *testing.T, x impl.Template, y impl.Instance) {
	t.Helper()
	solutions := solutionsBy(x, y)
	wantCall(t, "CountSolutions", []any{len(solutions), 0}, impl.CountSolutions, roomyTemplate(x), roomyInstance(y))
	if len(solutions) > impl.MaxListed {
		wantCode(t, "AllSolutions", impl.ErrLimit, impl.AllSolutions, x, y)
	} else {
		wantCall(t, "AllSolutions", []any{solutions, 0}, impl.AllSolutions, roomyTemplate(x), roomyInstance(y))
	}
	if len(solutions) == 0 {
		wantCode(t, "FirstSolution", impl.ErrNotFound, impl.FirstSolution, x, y)
	} else {
		wantCall(t, "FirstSolution", []any{solutions[0], 0}, impl.FirstSolution, roomyTemplate(x), roomyInstance(y))
	}
	for i, values := range listsOf(x.Size, y.Vars) {
		if i < 20 || i%7 == 0 {
			failing := failingBy(x, y, values)
			wantCall(t, "FirstFailing", []any{failing, 0}, impl.FirstFailing, roomyTemplate(x), roomyInstance(y), roomyList(values...))
			wantCall(t, "IsSolution", []any{failing == -1, 0}, impl.IsSolution, roomyTemplate(x), roomyInstance(y), roomyList(values...))
		}
	}
}

func TestSolutionsByDefinition(t *testing.T) {
	eachInstance(2, 300, func(x impl.Template, y impl.Instance) { checkSolutions(t, x, y) })
	for _, text := range []string{
		// variables that come several times
		"1 0:00", "1 2:000", "1 3:0000", "2 0:11", "2 2:010", "2 2:100", "2 3:0011", "3 3:0110 2:221", "4 3:0000 2:333 0:12",
		// equal constraints, and those against each other
		"2 0:01 0:01", "2 0:01 0:10", "3 0:01 0:12 0:20", "4 0:01 0:12 0:23 0:30",
		// variables in no constraint
		"4 1:2", "4 0:03", "5 0:24",
	} {
		checkSolutions(t, mixed(), instance(text))
	}
}

func TestSolutionsOfKnownInstances(t *testing.T) {
	empty := impl.Template{Size: 3, Rels: []impl.Rel{{Arity: 2}, {Arity: 1, Tuples: [][]int64{{1}}}}}
	for _, text := range []string{"2 0:01", "1 0:00", "10 0:98", "3 1:0 0:12"} {
		// relations without tuples
		wantCall(t, "CountSolutions", []any{0, 0}, impl.CountSolutions, empty, instance(text))
		wantCall(t, "AllSolutions", []any{"[]", 0}, impl.AllSolutions, empty, instance(text))
		wantCode(t, "FirstSolution", impl.ErrNotFound, impl.FirstSolution, empty, instance(text))
	}
	// that no constraint names one of them does not matter
	wantCall(t, "AllSolutions", []any{"[[1 0] [1 1] [1 2]]", 0}, impl.AllSolutions, empty, instance("2 1:0"))
	wantCall(t, "AllSolutions", []any{"[[0 1] [1 1] [2 1]]", 0}, impl.AllSolutions, empty, instance("2 1:1"))
	wantCall(t, "AllSolutions", []any{"[[0] [1] [2]]", 0}, impl.AllSolutions, empty, instance("1"))
	wantCall(t, "AllSolutions", []any{"[[0 0 0 0 0 0 0 0 0 0]]", 0}, impl.AllSolutions, impl.Template{Size: 1}, instance("10"))
	wantCall(t, "FirstSolution", []any{"[0 0 0 0 0 0 0 0 0 0]", 0}, impl.FirstSolution, impl.Template{Size: 4}, instance("10"))
	// MaxCons constraints are all looked at, the last one as well
	most := instance("3" + repeated(" 0:01", 23) + " 1:0")
	wantCall(t, "AllSolutions", []any{"[[1 0 0] [1 0 1]]", 0}, impl.AllSolutions, example(), most)
	wantCall(t, "FirstFailing", []any{23, 0}, impl.FirstFailing, example(), most, []int64{0, 1, 0})
	wantCall(t, "FirstFailing", []any{0, 0}, impl.FirstFailing, example(), most, []int64{0, 0, 0})
	wantCall(t, "FirstFailing", []any{-1, 0}, impl.FirstFailing, example(), most, []int64{1, 0, 0})
}

func TestSolutionsOfManyVariables(t *testing.T) {
	four := template(t, "4/1 3/2 00 11 22 33/2 01 02 03 10 12 13 20 21 23 30 31 32/4 3333/2 33")
	wantCall(t, "CountSolutions", []any{1 << 20, 0}, impl.CountSolutions, four, instance("10"))
	wantCall(t, "CountSolutions", []any{1 << 16, 0}, impl.CountSolutions, four, instance("10 1:01 1:99 1:98"))
	wantCode(t, "AllSolutions", impl.ErrLimit, impl.AllSolutions, four, instance("10"))
	for _, text := range []string{
		// solutions that are found late: only the last list is one
		"10 4:98 4:76 4:54 4:32 4:10", "10 1:89 1:78 1:67 1:56 1:45 1:34 1:23 1:12 1:01 0:9", "10 3:6789 3:4567 3:2345 3:0123", "10 0:9 0:8 0:7 0:6 0:5 0:4 0:3 0:2 0:1 0:0", "10 4:09 4:18 4:27 4:36 4:45",
	} {
		last := []int64{3, 3, 3, 3, 3, 3, 3, 3, 3, 3}
		wantCall(t, "FirstSolution", []any{last, 0}, impl.FirstSolution, four, instance(text))
		wantCall(t, "AllSolutions", []any{[][]int64{last}, 0}, impl.AllSolutions, four, instance(text))
		wantCall(t, "CountSolutions", []any{1, 0}, impl.CountSolutions, four, instance(text))
		wantCall(t, "IsSolution", []any{true, 0}, impl.IsSolution, four, instance(text), last)
	}
	// five variables of four values are not all different
	clique := instance("10 2:56 2:57 2:58 2:59 2:67 2:68 2:69 2:78 2:79 2:89")
	wantCode(t, "FirstSolution", impl.ErrNotFound, impl.FirstSolution, four, clique)
	wantCall(t, "CountSolutions", []any{0, 0}, impl.CountSolutions, four, clique)
	clique.Cons = clique.Cons[:9]
	wantCall(t, "CountSolutions", []any{24 << 10, 0}, impl.CountSolutions, four, clique)
	wantCall(t, "FirstSolution", []any{"[0 0 0 0 0 0 1 2 3 3]", 0}, impl.FirstSolution, four, clique)
}

func TestAllSolutionsUpToMaxListed(t *testing.T) {
	for _, count := range []int{199, 200, 201, 202, 256} {
		all := listsOf(4, 4)
		x := impl.Template{Size: 4, Rels: []impl.Rel{{Arity: 4, Tuples: all[len(all)-count:]}, {Arity: 1, Tuples: [][]int64{{2}}}}}
		wantCall(t, "CountSolutions", []any{count, 0}, impl.CountSolutions, x, instance("5 0:0124 1:3"))
		if count > 200 {
			wantCode(t, "AllSolutions", impl.ErrLimit, impl.AllSolutions, x, instance("4 0:0123"))
			wantCode(t, "AllSolutions", impl.ErrLimit, impl.AllSolutions, x, instance("5 0:0124 1:3"))
			continue
		}
		wantCall(t, "AllSolutions", []any{x.Rels[0].Tuples, 0}, impl.AllSolutions, x, instance("4 0:0123"))
		checkSolutions(t, x, instance("5 0:0124 1:3"))
	}
}

func TestListsThatAreNoValues(t *testing.T) {
	for _, list := range [][]int64{nil, {}, {1}, {1, 0}, {1, 0, 1, 0}, {1, 0, 1, 1, 0, 1}, {1, 0, 2}, {2, 0, 1}, {1, -1, 1}, {1, 0, math.MaxInt64}, {math.MinInt64, 0, 1}, {0, 0, 2}} {
		wantCode(t, "IsSolution", impl.ErrRange, impl.IsSolution, example(), colours(), list)
		wantCode(t, "FirstFailing", impl.ErrRange, impl.FirstFailing, example(), colours(), list)
		wantCode(t, "IsSolution", impl.ErrRange, impl.IsSolution, example(), instance("3"), list)
		wantCode(t, "FirstFailing", impl.ErrRange, impl.FirstFailing, example(), instance("3"), list)
	}
}
