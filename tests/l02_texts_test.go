package tests

import (
	"fmt"
	"regexp"
	"slices"
	"strings"
	"testing"

	"loop.example/g01085/impl"
)

func TestGraphs(t *testing.T) {
	eachOp(func(size int64, f impl.Op) {
		want := impl.Rel{Arity: f.Arity + 1}
		for i, list := range listsOf(size, f.Arity) {
			want.Tuples = append(want.Tuples, append(slices.Clone(list), f.Table[i]))
		}
		wantCall(t, "GraphOfOp", []any{want, 0}, impl.GraphOfOp, size, roomyOp(f))
		wantCall(t, "OpOfGraph", []any{f, 0}, impl.OpOfGraph, size, roomy(want))
		// with one tuple less, or one more, it is none
		for i := range want.Tuples {
			less := impl.Rel{Arity: want.Arity, Tuples: slices.Delete(slices.Clone(want.Tuples), i, i+1)}
			wantCode(t, "OpOfGraph", impl.ErrState, impl.OpOfGraph, size, less)
		}
		if size > 1 {
			first := want.Tuples[0]
			other := append(slices.Clone(first[:f.Arity]), (first[f.Arity]+1)%size)
			more, _ := impl.MakeRel(size, want.Arity, append([][]int64{other}, want.Tuples...))
			wantCode(t, "OpOfGraph", impl.ErrState, impl.OpOfGraph, size, more)
			// as many tuples, but a list with two values, and one without any
			more.Tuples = more.Tuples[:len(more.Tuples)-1]
			wantCode(t, "OpOfGraph", impl.ErrState, impl.OpOfGraph, size, more)
		}
	})
}

func TestGraphsByDefinition(t *testing.T) {
	for size := int64(1); size <= 4; size++ {
		for arity := int64(1); arity <= 4; arity++ {
			for _, r := range someRels(size, arity) {
				values := map[tupleKey]int{}
				for _, tuple := range r.Tuples {
					values[keyOf(tuple[:arity-1])]++
				}
				want := int64(impl.ErrState)
				if arity == 1 {
					want = impl.ErrRange
				} else if len(r.Tuples) == len(values) && len(values) == len(listsOf(size, arity-1)) {
					want = impl.OK
				}
				wantCode(t, "OpOfGraph", want, impl.OpOfGraph, size, r)
			}
		}
		wantCode(t, "OpOfGraph", impl.ErrState, impl.OpOfGraph, size, impl.Rel{Arity: 2})
		wantCode(t, "OpOfGraph", impl.ErrRange, impl.OpOfGraph, size, impl.Rel{Arity: 1})
		wantCode(t, "OpOfGraph", impl.ErrRange, impl.OpOfGraph, size, impl.Rel{Arity: 1, Tuples: [][]int64{{0}}})
	}
	wantCall(t, "OpOfGraph", []any{"{1 [1 0]}", 0}, impl.OpOfGraph, 2, impl.Rel{Arity: 2, Tuples: [][]int64{{0, 1}, {1, 0}}})
	wantCode(t, "OpOfGraph", impl.ErrState, impl.OpOfGraph, 2, impl.Rel{Arity: 2, Tuples: [][]int64{{0, 0}, {0, 1}}})
	wantCode(t, "OpOfGraph", impl.ErrState, impl.OpOfGraph, 3, impl.Rel{Arity: 2, Tuples: [][]int64{{0, 1}, {1, 0}}})
}

var opWords = regexp.MustCompile(`\Aop [123] [0-3]+\z`)

// isOpText tells by the definition whether a text is that of an operation.
func isOpText(text string) bool {
	if !opWords.MatchString(text) {
		return false
	}
	digits := text[5:]
	for size := 1; size <= 4; size++ {
		count := map[byte]int{'1': size, '2': size * size, '3': size * size * size}[text[3]]
		if len(digits) == count && !strings.ContainsAny(digits, "0123"[size:]) {
			return true
		}
	}
	return false
}

// textOfOp writes an operation down.
func textOfOp(f impl.Op) string {
	text := fmt.Sprint("op ", f.Arity, " ")
	for _, value := range f.Table {
		text += fmt.Sprint(value)
	}
	return text
}

func checkOpText(t *testing.T, text string) {
	t.Helper()
	f, code := impl.ReadOp(text)
	want := int64(impl.ErrSyntax)
	if isOpText(text) {
		want = impl.OK
	}
	if code != want || code == impl.OK && impl.OpText(f) != text || code != impl.OK && (f.Arity != 0 || len(f.Table) != 0) {
		t.Errorf("ReadOp of %q: %v %d", text, f, code)
	}
}

func TestOpTexts(t *testing.T) {
	eachOp(func(size int64, f impl.Op) {
		text := textOfOp(f)
		wantCall(t, "OpText", []any{text}, impl.OpText, roomyOp(f))
		wantCall(t, "ReadOp", []any{f, 0}, impl.ReadOp, text)
	})
	wantCall(t, "OpText", []any{"op 2 0001"}, impl.OpText, leastOf)
	wantCall(t, "OpText", []any{"op 1 0"}, impl.OpText, impl.Op{Arity: 1, Table: []int64{0}})
	wantCall(t, "OpText", []any{"op 3 0"}, impl.OpText, impl.Op{Arity: 3, Table: []int64{0}})
	for _, bad := range badOps() {
		valid := false
		for size := int64(1); size <= 4; size++ {
			valid = valid || impl.ValidOp(size, bad)
		}
		if valid {
			wantCall(t, "OpText", []any{textOfOp(bad)}, impl.OpText, bad)
		} else {
			wantCall(t, "OpText", []any{""}, impl.OpText, bad)
		}
	}
	for _, bad := range []impl.Op{{}, {Arity: 1, Table: []int64{1}}, {Arity: 1, Table: []int64{0, 1, 3}}, {Arity: 1, Table: []int64{0, 1, 2, 4}}, {Arity: 1, Table: make([]int64, 5)}, {Arity: 2, Table: make([]int64, 25)}, {Arity: 3, Table: make([]int64, 125)}, {Arity: 4, Table: make([]int64, 16)}, {Arity: 2, Table: []int64{0, 0, 0, 2}}, {Arity: 2, Table: []int64{0, 0, 0, -1}}} {
		wantCall(t, "OpText", []any{""}, impl.OpText, bad)
	}
}

func TestNearOpTexts(t *testing.T) {
	for _, text := range []string{"op 1 0", "op 2 0", "op 3 0", "op 1 10", "op 1 012", "op 1 3210", "op 2 0001", "op 2 012120201", "op 2 0123123023013012", "op 3 00010111", "op 3 000111222000111222000111222", textOfOp(opWhere(4, 3, middle))} {
		checkOpText(t, text)
		for _, near := range nearTexts(text) {
			checkOpText(t, near)
			for i, nearer := range nearTexts(near) {
				if i%11 == 0 {
					checkOpText(t, nearer)
				}
			}
		}
	}
	for _, text := range []string{
		"", " ", "\n", "op", "op ", "op 2", "op 2 ", "op  2 0001", "op 2  0001", " op 2 0001", "op 2 0001 ", "op 2 0001\n", "\nop 2 0001", "op 2\t0001", "op 2\n0001",
		"op 0 0", "op 4 0", "op 5 0", "op 4 0000000000000000", "op 0 ", "op -1 0", "op +2 0001", "op 02 0001", "op 2. 0001", "op x 0001", "op 9223372036854775807 0", "op 10 0",
		"op 2 000", "op 2 00010", "op 2 0002", "op 2 0003", "op 2 0004", "op 2 000x", "op 2 0 0 0 1", "op 2 00 01", "op 2 0,0,0,1", "op 2 000-1", "op 2 -0001", "op 1 1", "op 1 02", "op 1 013", "op 1 0124", "op 1 01234",
		"Op 2 0001", "OP 2 0001", "op2 0001", "op 20001", "rel 2 0001", "oper 2 0001", "op 2 \xff\xfe\xff\xfe", "op 2 ٠٠٠١", "op 2 000\x00", "op 2 " + strings.Repeat("0", 25), "op 3 " + strings.Repeat("0", 65), "op 3 " + strings.Repeat("0", 125),
	} {
		same(t, fmt.Sprintf("isOpText %q", text), isOpText(text), false)
		wantCode(t, fmt.Sprintf("ReadOp %q", text), impl.ErrSyntax, impl.ReadOp, text)
	}
}

func TestLongOpTexts(t *testing.T) {
	for _, start := range []string{"", "op ", "op 1 ", "op 1 0"} {
		for _, filler := range []string{" ", "\n", "0", "x", "op 1 0\n", "\xff"} {
			wantCode(t, "ReadOp of a long text", impl.ErrSyntax, impl.ReadOp, start+strings.Repeat(filler, impl.MaxText))
		}
	}
	wantCode(t, "ReadOp of a million bytes", impl.ErrSyntax, impl.ReadOp, strings.Repeat(" ", 1000000))
}
