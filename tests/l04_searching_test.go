package tests

import (
	"fmt"
	"math"
	"math/rand/v2"
	"slices"
	"strings"
	"testing"

	"loop.example/g01085/impl"
)

// lookup is what a search looks at: cells the values of which, in order, have to
// be a tuple of a relation.
type lookup struct {
	cells []int64
	set   map[tupleKey]bool
}

// whole is a polymorphism with the step at which its table is whole.
type whole struct {
	op   impl.Op
	step int64
}

// search looks for polymorphisms step by step, as the document tells, and counts
// the steps; it ends when there is one step too many, or with so many found.
type search struct {
	size, arity int64
	ending      map[int64][]lookup // by the last cell
	told        map[int64]int64    // by the cell
	table       []int64            // the values that are chosen
	most        int
	limit       int64
	found       []whole
	steps       int64
}

// cellsFor returns, for each place of some tuples, the cell for their values.
func cellsFor(size int64, tuples [][]int64) []int64 {
	cells := make([]int64, len(tuples[0]))
	for place := range cells {
		for _, tuple := range tuples {
			cells[place] = cells[place]*size + tuple[place]
		}
	}
	return cells
}

// lookupsOf returns all lookups for an arity, by their last cells.
func lookupsOf(x impl.Template, arity int64) map[int64][]lookup {
	ending := map[int64][]lookup{}
	for _, r := range x.Rels {
		set := setOf(r)
		for _, indices := range listsOf(int64(len(r.Tuples)), arity) {
			cells := cellsFor(x.Size, pick(r.Tuples, indices))
			ending[slices.Max(cells)] = append(ending[slices.Max(cells)], lookup{cells, set})
		}
	}
	return ending
}

// listCount returns how many lists of tuples are looked at.
func listCount(x impl.Template, arity int64) int64 {
	count := 0.0
	for _, r := range x.Rels {
		count += math.Pow(float64(len(r.Tuples)), float64(arity))
	}
	return int64(count)
}

// searchBy searches for polymorphisms, all of them if most is 0.
func searchBy(x impl.Template, arity int64, told map[int64]int64, most int) *search {
	s := &search{size: x.Size, arity: arity, ending: lookupsOf(x, arity), told: told, most: most, limit: impl.MaxPolySteps}
	s.run()
	return s
}

// run chooses the values of all further cells, and reports whether the search
// goes on.
func (s *search) run() bool {
	cell := int64(len(s.table))
	if cell == int64(math.Pow(float64(s.size), float64(s.arity))) {
		s.found = append(s.found, whole{impl.Op{Arity: s.arity, Table: slices.Clone(s.table)}, s.steps})
		return len(s.found) != s.most
	}
	for value := range s.size {
		if told, ok := s.told[cell]; ok && told != value {
			continue
		}
		if s.steps++; s.steps > s.limit {
			return false
		}
		s.table = append(s.table, value)
		goesOn := s.isBroken(cell) || s.run()
		s.table = s.table[:cell]
		if !goesOn {
			return false
		}
	}
	return true
}

// isBroken reports whether a lookup fails that ends at a cell.
func (s *search) isBroken(cell int64) bool {
	return slices.ContainsFunc(s.ending[cell], func(l lookup) bool { return !l.set[keyOf(at(s.table, l.cells))] })
}

// all returns what PolymorphismsOf has to return.
func (s *search) all() []any {
	if len(s.found) > impl.MaxOps {
		return []any{"[]", impl.ErrLimit}
	}
	if s.steps > s.limit {
		return []any{"[]", impl.ErrBudget}
	}
	var ops []impl.Op
	for _, w := range s.found {
		ops = append(ops, w.op)
	}
	return []any{ops, 0}
}

// count returns what CountPolymorphisms has to return.
func (s *search) count() []any {
	if s.steps > s.limit {
		return []any{0, impl.ErrBudget}
	}
	return []any{len(s.found), 0}
}

// first returns what has to be returned for the first one of a kind, or of all
// if the kind is 0.
func (s *search) first(kind int64) []any {
	for _, w := range s.found {
		if kind == 0 || isKind(s.size, w.op, kind) {
			return []any{w.op, 0}
		}
	}
	if s.steps > s.limit {
		return []any{"{0 []}", impl.ErrBudget}
	}
	return []any{"{0 []}", impl.ErrNotFound}
}

// template returns the template with a text, the lines of which are separated by
// slashes, such as "4/2 00 10/1 2".
func template(t *testing.T, short string) impl.Template {
	t.Helper()
	text := "template " + strings.ReplaceAll(short, "/", "\nrel ") + "\n"
	x, code := impl.ReadTemplate(text)
	if code != impl.OK {
		t.Fatalf("%q is no template", text)
	}
	return x
}

// swap and order are the templates of the example of chapter 4.
func swap() impl.Template { return graph(2, []int64{0, 1}, []int64{1, 0}) }

func order() impl.Template { return graph(2, []int64{0, 0}, []int64{0, 1}, []int64{1, 1}) }

// smallTemplates are templates with few tuples, of all sizes, for which searches
// of all arities are allowed.
func smallTemplates() []impl.Template {
	list := []impl.Template{{Size: 1}, {Size: 2}, {Size: 3}, {Size: 4}, swap(), order(), round(), mixed()}
	list = append(list, impl.Template{Size: 2, Rels: []impl.Rel{{Arity: 1}, {Arity: 4}}})
	source := rand.New(rand.NewPCG(21, 21))
	for i := range 60 {
		x := impl.Template{Size: 1 + int64(i)%4}
		for range 1 + source.IntN(3) {
			arity := 1 + source.Int64N(4)
			all := listsOf(x.Size, arity)
			var tuples [][]int64
			for range 1 + source.IntN(5) {
				tuples = append(tuples, all[source.IntN(len(all))])
			}
			r, _ := impl.MakeRel(x.Size, arity, tuples)
			x.Rels = append(x.Rels, r)
		}
		list = append(list, x)
	}
	return list
}

func TestExampleOfChapter4(t *testing.T) {
	wantCall(t, "CountPolymorphisms", []any{2, 0}, impl.CountPolymorphisms, swap(), 1)
	wantCall(t, "CountPolymorphisms", []any{4, 0}, impl.CountPolymorphisms, swap(), 2)
	wantCall(t, "CountPolymorphisms", []any{3, 0}, impl.CountPolymorphisms, order(), 1)
	wantCall(t, "PolymorphismsOf", []any{"[{1 [0 1]} {1 [1 0]}]", 0}, impl.PolymorphismsOf, swap(), 1)
	wantCall(t, "PolymorphismsOf", []any{"[{2 [0 0 1 1]} {2 [0 1 0 1]} {2 [1 0 1 0]} {2 [1 1 0 0]}]", 0}, impl.PolymorphismsOf, swap(), 2)
	wantCall(t, "PolymorphismsOf", []any{"[{1 [0 0]} {1 [0 1]} {1 [1 1]}]", 0}, impl.PolymorphismsOf, order(), 1)
	wantCall(t, "PolymorphismsOf", []any{"[{2 [0 0 0 0]} {2 [0 0 0 1]} {2 [0 0 1 1]} {2 [0 1 0 1]} {2 [0 1 1 1]} {2 [1 1 1 1]}]", 0}, impl.PolymorphismsOf, order(), 2)
	wantCall(t, "IsPolymorphism", []any{true, 0}, impl.IsPolymorphism, order(), leastOf)
	wantCall(t, "IsPolymorphism", []any{true, 0}, impl.IsPolymorphism, order(), impl.Op{Arity: 2, Table: []int64{0, 1, 1, 1}})
	wantCall(t, "IsPolymorphism", []any{false, 0}, impl.IsPolymorphism, swap(), leastOf)
	wantCall(t, "HullOf", []any{"{2 [[0 0] [0 1] [1 0] [1 1]]}", 0}, impl.HullOf, order(), [][]int64{{0, 1}, {1, 0}})
}

func TestNumbersOfChapter4(t *testing.T) {
	same(t, "limits", []int64{impl.MaxPolySteps, impl.MaxLists}, []int64{6000, 4000})
}

func TestIsPolymorphism(t *testing.T) {
	for _, x := range append(smallTemplates(), someTemplates()[:20]...) {
		for arity := int64(1); arity <= 3; arity++ {
			if listCount(x, arity) > 20000 {
				continue
			}
			for _, f := range someOps(x.Size, arity) {
				isBroken := func(r impl.Rel) bool { list, _ := breaksBy(x.Size, f, r); return list != nil }
				wantCall(t, "IsPolymorphism", []any{!slices.ContainsFunc(x.Rels, isBroken), 0}, impl.IsPolymorphism, roomyTemplate(x), roomyOp(f))
			}
		}
	}
	// an operation is not searched for: there may be more than MaxLists lists
	all := impl.Template{Size: 4, Rels: []impl.Rel{{Arity: 4, Tuples: listsOf(4, 4)}, {Arity: 3, Tuples: listsOf(4, 3)[:63]}}}
	wantCall(t, "IsPolymorphism", []any{true, 0}, impl.IsPolymorphism, all, opWhere(4, 2, slices.Min[[]int64]))
	wantCall(t, "IsPolymorphism", []any{false, 0}, impl.IsPolymorphism, all, opWhere(4, 2, slices.Max[[]int64]))
}

// polymorphismsBy returns all polymorphisms of an arity: those of all operations
// that break no relation.
func polymorphismsBy(x impl.Template, arity int64) []impl.Op {
	var ops []impl.Op
	for _, table := range listsOf(x.Size, int64(len(listsOf(x.Size, arity)))) {
		f := impl.Op{Arity: arity, Table: table}
		if !slices.ContainsFunc(x.Rels, func(r impl.Rel) bool { list, _ := breaksBy(x.Size, f, r); return list != nil }) {
			ops = append(ops, f)
		}
	}
	return ops
}

func TestPolymorphismsAreThoseOfAllOperations(t *testing.T) {
	for _, x := range smallTemplates() {
		for arity := int64(1); arity <= 3; arity++ {
			if math.Pow(float64(x.Size), math.Pow(float64(x.Size), float64(arity))) > 256 || listCount(x, arity) > impl.MaxLists {
				continue
			}
			ops := polymorphismsBy(x, arity)
			wantCall(t, "CountPolymorphisms", []any{len(ops), 0}, impl.CountPolymorphisms, roomyTemplate(x), arity)
			if len(ops) <= impl.MaxOps {
				wantCall(t, "PolymorphismsOf", []any{ops, 0}, impl.PolymorphismsOf, roomyTemplate(x), arity)
			}
			if arity == 1 {
				wantCall(t, "IsRigid", []any{len(ops) == 1, 0}, impl.IsRigid, roomyTemplate(x))
			}
		}
	}
}

// checkSearches compares the searches of an arity without values that are told
// with the search by the definition, for each third kind from one on.
func checkSearches(t *testing.T, x impl.Template, arity, kind int64) {
	t.Helper()
	if listCount(x, arity) > impl.MaxLists {
		wantCode(t, "PolymorphismsOf", impl.ErrLimit, impl.PolymorphismsOf, x, arity)
		wantCode(t, "CountPolymorphisms", impl.ErrLimit, impl.CountPolymorphisms, x, arity)
		wantCode(t, "FirstPolymorphism", impl.ErrLimit, impl.FirstPolymorphism, x, arity, 1)
		return
	}
	s := searchBy(x, arity, nil, 0)
	wantCall(t, "PolymorphismsOf", s.all(), impl.PolymorphismsOf, x, arity)
	wantCall(t, "CountPolymorphisms", s.count(), impl.CountPolymorphisms, x, arity)
	for ; kind <= impl.KdSymmetric; kind += 3 {
		wantCall(t, "FirstPolymorphism", s.first(kind), impl.FirstPolymorphism, x, arity, kind)
	}
}

func TestSearchesByDefinition(t *testing.T) {
	for i, x := range append(smallTemplates(), someTemplates()...) {
		for arity := int64(1); arity <= 3; arity++ {
			if arity < 3 || i%3 == 0 {
				checkSearches(t, x, arity, 1+(int64(i)+arity)%3)
			}
		}
	}
}

func TestFirstPolymorphismsOfKinds(t *testing.T) {
	wantCall(t, "a semilattice", []any{leastOf, 0}, impl.FirstPolymorphism, order(), 2, impl.KdSemilattice)
	wantCall(t, "a majority", []any{"{3 [0 0 0 1 0 1 1 1]}", 0}, impl.FirstPolymorphism, swap(), 3, impl.KdMajority)
	wantCall(t, "a minority", []any{"{3 [0 1 1 0 1 0 0 1]}", 0}, impl.FirstPolymorphism, swap(), 3, impl.KdMinority)
	wantCode(t, "no semilattice", impl.ErrNotFound, impl.FirstPolymorphism, swap(), 2, impl.KdSemilattice)
	wantCode(t, "no Maltsev operation", impl.ErrNotFound, impl.FirstPolymorphism, order(), 3, impl.KdMaltsev)
	// kinds of one arity alone are kinds of other arities, too: none is found
	wantCode(t, "no majority of the arity 2", impl.ErrNotFound, impl.FirstPolymorphism, order(), 2, impl.KdMajority)
	wantCode(t, "no semilattice of the arity 3", impl.ErrNotFound, impl.FirstPolymorphism, order(), 3, impl.KdSemilattice)
	wantCall(t, "one value", []any{"{3 [0]}", 0}, impl.FirstPolymorphism, impl.Template{Size: 1}, 3, impl.KdMajority)
}

// toldBy returns the values that are told by their cells.
func toldBy(size int64, lists [][]int64, values []int64) map[int64]int64 {
	told := map[int64]int64{}
	for i, list := range lists {
		cell := int64(0)
		for _, value := range list {
			cell = cell*size + value
		}
		told[cell] = values[i]
	}
	return told
}

// checkWith compares PolymorphismWith with the search by the definition.
func checkWith(t *testing.T, x impl.Template, arity int64, lists [][]int64, values []int64) {
	t.Helper()
	s := searchBy(x, arity, toldBy(x.Size, lists, values), 1)
	wantCall(t, "PolymorphismWith", s.first(0), impl.PolymorphismWith, x, arity, lists, values)
}

func TestPolymorphismWithByDefinition(t *testing.T) {
	source := rand.New(rand.NewPCG(22, 22))
	for _, x := range append(smallTemplates(), someTemplates()...) {
		for arity := int64(1); arity <= 3; arity++ {
			if listCount(x, arity) > impl.MaxLists {
				wantCode(t, "PolymorphismWith", impl.ErrLimit, impl.PolymorphismWith, x, arity, nil, nil)
				continue
			}
			all := listsOf(x.Size, arity)
			for count := range 4 {
				lists := make([][]int64, 0, count+2)
				values := make([]int64, 0, count+2)
				for _, i := range source.Perm(len(all))[:min(count, len(all))] {
					lists = append(lists, roomyList(all[i]...))
					values = append(values, source.Int64N(x.Size))
				}
				checkWith(t, roomyTemplate(x), arity, lists, values)
				if count > 0 {
					// lists that come again with the same value
					last := len(lists) - 1
					checkWith(t, x, arity, append(lists, lists[last], lists[0]), append(values, values[last], values[0]))
				}
			}
		}
	}
}

func TestListsOfPolymorphismWith(t *testing.T) {
	wantCall(t, "no lists", []any{"{2 [0 0 0 0]}", 0}, impl.PolymorphismWith, order(), 2, nil, nil)
	wantCall(t, "no lists", []any{"{2 [0 0 1 1]}", 0}, impl.PolymorphismWith, swap(), 2, [][]int64{}, []int64{})
	wantCall(t, "one list", []any{"{2 [0 1 0 1]}", 0}, impl.PolymorphismWith, order(), 2, [][]int64{{0, 1}}, []int64{1})
	wantCall(t, "one list twice", []any{"{2 [0 1 0 1]}", 0}, impl.PolymorphismWith, order(), 2, [][]int64{{0, 1}, {0, 1}}, []int64{1, 1})
	wantCall(t, "two lists", []any{"{2 [0 1 1 1]}", 0}, impl.PolymorphismWith, order(), 2, [][]int64{{1, 0}, {0, 1}}, []int64{1, 1})
	wantCode(t, "none", impl.ErrNotFound, impl.PolymorphismWith, order(), 2, [][]int64{{1, 1}, {0, 1}}, []int64{0, 1})
	wantCode(t, "one list with two values", impl.ErrState, impl.PolymorphismWith, order(), 2, [][]int64{{0, 1}, {0, 1}}, []int64{1, 0})
	wantCode(t, "one list with two values", impl.ErrState, impl.PolymorphismWith, order(), 1, [][]int64{{0}, {1}, {0}}, []int64{0, 1, 1})
	for _, lists := range [][][]int64{
		{{0}}, {{}}, {nil}, {{0, 1, 0}}, {{0, 2}}, {{2, 0}}, {{0, -1}}, {{0, math.MaxInt64}}, {{math.MinInt64, 0}},
	} {
		wantCode(t, "PolymorphismWith", impl.ErrRange, impl.PolymorphismWith, order(), 2, lists, []int64{0})
		wantCode(t, "PolymorphismWith", impl.ErrRange, impl.PolymorphismWith, order(), 2, append(lists, []int64{0, 0}), []int64{0, 0})
		wantCode(t, "PolymorphismWith", impl.ErrRange, impl.PolymorphismWith, order(), 2, append([][]int64{{0, 0}}, lists...), []int64{0, 0})
	}
	one := [][]int64{{0, 1}}
	for _, values := range [][]int64{nil, {}, {0, 0}, {2}, {-1}, {math.MaxInt64}, {math.MinInt64}} {
		wantCode(t, "PolymorphismWith", impl.ErrRange, impl.PolymorphismWith, order(), 2, one, values)
	}
	wantCode(t, "PolymorphismWith", impl.ErrRange, impl.PolymorphismWith, order(), 2, nil, []int64{0})
}

func TestIsRigid(t *testing.T) {
	wantCall(t, "IsRigid", []any{false, 0}, impl.IsRigid, swap())
	wantCall(t, "IsRigid", []any{false, 0}, impl.IsRigid, order())
	wantCall(t, "IsRigid", []any{false, 0}, impl.IsRigid, impl.Template{Size: 2})
	wantCall(t, "IsRigid", []any{true, 0}, impl.IsRigid, impl.Template{Size: 1})
	wantCall(t, "IsRigid", []any{true, 0}, impl.IsRigid, impl.Template{Size: 1, Rels: []impl.Rel{{Arity: 3}}})
	wantCall(t, "IsRigid", []any{true, 0}, impl.IsRigid, graph(2, []int64{0, 1}))
	wantCall(t, "IsRigid", []any{true, 0}, impl.IsRigid, graph(4, []int64{0, 1}, []int64{1, 2}, []int64{2, 3}))
	for _, x := range someTemplates() {
		wantCall(t, "IsRigid", []any{len(mapsOf(x, x)) == 1, 0}, impl.IsRigid, roomyTemplate(x))
	}
}

func TestPolymorphismsOfOneArityAreMaps(t *testing.T) {
	for _, x := range someTemplates() {
		maps := mapsOf(x, x)
		wantCall(t, "CountPolymorphisms", []any{len(maps), 0}, impl.CountPolymorphisms, x, 1)
		if len(maps) <= impl.MaxOps {
			var ops []impl.Op
			for _, to := range maps {
				ops = append(ops, impl.Op{Arity: 1, Table: to})
			}
			wantCall(t, "PolymorphismsOf", []any{ops, 0}, impl.PolymorphismsOf, x, 1)
		}
	}
}

func TestCompositionsOfPolymorphisms(t *testing.T) {
	source := rand.New(rand.NewPCG(23, 23))
	for _, x := range smallTemplates() {
		var ops []impl.Op
		for arity := int64(1); arity <= 3; arity++ {
			list, code := impl.PolymorphismsOf(x, arity)
			if code != impl.OK {
				list = nil
			}
			ops = append(ops, list...)
			for _, f := range projectionsOf(x.Size, arity) {
				wantCall(t, "IsPolymorphism", []any{true, 0}, impl.IsPolymorphism, x, f)
			}
		}
		for range min(30, 10*len(ops)) {
			f, g := ops[source.IntN(len(ops))], ops[source.IntN(len(ops))]
			others := slices.DeleteFunc(slices.Clone(ops), func(h impl.Op) bool { return h.Arity != g.Arity })
			var list []impl.Op
			for range f.Arity {
				list = append(list, others[source.IntN(len(others))])
			}
			composed, code := impl.ComposeOps(x.Size, f, list)
			same(t, "ComposeOps", code, impl.OK)
			wantCall(t, "IsPolymorphism", []any{true, 0}, impl.IsPolymorphism, x, composed)
			if all, code := impl.PolymorphismsOf(x, composed.Arity); code == impl.OK {
				isSame := func(h impl.Op) bool { return impl.SameOp(h, composed) }
				same(t, fmt.Sprint(composed, " is listed for ", x), slices.ContainsFunc(all, isSame), true)
			}
		}
	}
}

func TestPolymorphismsKeepWhatFormulasDefine(t *testing.T) {
	eachFormula(24, func(x impl.Template, f impl.Formula) {
		value := valueBy(x, f)
		for arity := int64(1); arity <= 2; arity++ {
			list, code := impl.PolymorphismsOf(x, arity)
			if code != impl.OK {
				continue
			}
			for _, g := range list {
				wantCall(t, "Keeps "+short(f), []any{true, 0}, impl.Keeps, x.Size, g, value)
			}
		}
	})
}
