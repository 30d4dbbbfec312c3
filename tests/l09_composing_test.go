package tests

import (
	"fmt"
	"math/rand/v2"
	"slices"
	"strings"
	"testing"

	"loop.example/g01085/impl"
)

// composedBy returns what ComposeGadgets has to return, by the definition.
func composedBy(g, h impl.Gadgets) []any {
	var composed impl.Gadgets
	for _, f := range g.Formulas {
		next := impl.Formula{Free: f.Free, Vars: f.Vars}
		for _, a := range f.Atoms {
			if a.Rel == impl.EqualAtom {
				next.Atoms = append(next.Atoms, a)
				continue
			}
			said, to := h.Formulas[a.Rel], slices.Clone(a.Args)
			for ; int64(len(to)) < said.Vars; next.Vars++ {
				to = append(to, next.Vars)
			}
			for _, b := range said.Atoms {
				next.Atoms = append(next.Atoms, impl.Atom{Rel: b.Rel, Args: at(to, b.Args)})
			}
		}
		if next.Vars > 8 || len(next.Atoms) > 16 {
			return []any{impl.Gadgets{}, impl.ErrLimit}
		}
		composed.Formulas = append(composed.Formulas, next)
	}
	return []any{composed, 0}
}

// checkComposed compares gadgets behind gadgets with the definition, and reports
// whether there are some.
func checkComposed(t *testing.T, x, u, v impl.Template, g, h impl.Gadgets) bool {
	t.Helper()
	wantCall(t, "ComposeGadgets", composedBy(g, h), impl.ComposeGadgets, roomyTemplate(x), roomyTemplate(u), roomyTemplate(v), roomyGadgets(g), roomyGadgets(h))
	composed, code := impl.ComposeGadgets(x, u, v, g, h)
	if code == impl.OK {
		wantValid(t, true, x, v, composed)
	}
	return code == impl.OK
}

func TestComposingByDefinition(t *testing.T) {
	source := rand.New(rand.NewPCG(94, 9))
	composed, others := 0, 0
	eachGadgets(94, func(u, v impl.Template, h impl.Gadgets) {
		for range 5 {
			g := impl.Gadgets{Formulas: someFormulas(source, u, source.IntN(4))}
			if checkComposed(t, madeBy(u, g), u, v, g, h) {
				composed++
			} else {
				others++
			}
		}
	})
	if composed < 100 || others < 50 {
		t.Errorf("only %d gadgets are composed, and %d become too large", composed, others)
	}
}

// TestComposedGadgetsApply applies gadgets one after the other, and both at once.
func TestComposedGadgetsApply(t *testing.T) {
	source := rand.New(rand.NewPCG(95, 9))
	solvable, others := 0, 0
	eachGadgets(95, func(u, v impl.Template, h impl.Gadgets) {
		g := impl.Gadgets{Formulas: someFormulas(source, u, 1+source.IntN(2))}
		x := madeBy(u, g)
		both, code := impl.ComposeGadgets(x, u, v, g, h)
		for range 10 {
			y := randomInstance(source, x, 1+source.Int64N(3), 1+source.IntN(2))
			one, _, oneCode := impl.ApplyGadgets(x, u, g, y)
			two, _, twoCode := impl.ApplyGadgets(u, v, h, one)
			once, _, onceCode := impl.ApplyGadgets(x, v, both, y)
			if code != impl.OK || oneCode != impl.OK || twoCode != impl.OK || onceCode != impl.OK {
				continue
			}
			count, _ := impl.CountSolutions(v, two)
			countOnce, _ := impl.CountSolutions(v, once)
			first, firstCode := impl.FirstSolution(x, y)
			same(t, "there are solutions", []bool{count > 0, countOnce > 0}, []bool{firstCode == impl.OK, firstCode == impl.OK})
			same(t, "variables and solutions at once", []int64{once.Vars, countOnce}, []int64{two.Vars, count})
			if firstCode != impl.OK {
				others++
				continue
			}
			solvable++
			forth, _ := impl.CarryForth(x, u, g, y, first)
			further, _ := impl.CarryForth(u, v, h, one, forth)
			back, _ := impl.CarryBack(u, v, h, one, further)
			again, _ := impl.CarryBack(x, u, g, y, back)
			same(t, "carried forth twice, and back twice", []any{back, again}, []any{forth, first})
		}
	})
	if solvable < 50 || others < 20 {
		t.Errorf("only %d instances have solutions, and %d have none", solvable, others)
	}
}

// wantComposed checks gadgets behind gadgets; all templates are made by values.
func wantComposed(t *testing.T, v impl.Template, g, h []string, want ...string) {
	t.Helper()
	front, back := gadgets(g...), gadgets(h...)
	u := madeBy(v, back)
	x := madeBy(u, front)
	wantCall(t, "ComposeGadgets", []any{gadgets(want...), 0}, impl.ComposeGadgets, x, u, v, front, back)
	checkComposed(t, x, u, v, front, back)
}

func TestComposedGadgets(t *testing.T) {
	list := func(shorts ...string) []string { return shorts }
	path := "2 3 R0:02 R0:21"
	wantComposed(t, swap(), nil, nil)
	wantComposed(t, swap(), nil, list(path))
	wantComposed(t, swap(), list("2 2 =:01", "1 8"), nil, "2 2 =:01", "1 8")
	wantComposed(t, swap(), list("2 2 R0:10"), list("2 2 R0:01"), "2 2 R0:10")
	wantComposed(t, swap(), list(path), list(path), "2 5 R0:03 R0:32 R0:24 R0:41")
	wantComposed(t, swap(), list(path), list("2 4 R0:02 R0:23 R0:31"), "2 7 R0:03 R0:34 R0:42 R0:25 R0:56 R0:61")
	// formulas without atoms, and with bound variables in no atom
	wantComposed(t, swap(), list(path), list("2 2"), "2 3")
	wantComposed(t, swap(), list(path), list("2 4"), "2 7")
	wantComposed(t, swap(), list("2 2", "1 3"), list(path), "2 2", "1 3")
	// EqualAtom in formulas of both
	wantComposed(t, swap(), list("2 3 =:02 R0:21"), list(path), "2 4 =:02 R0:23 R0:31")
	wantComposed(t, swap(), list("2 3 R0:02 =:21"), list("2 2 =:10"), "2 3 =:20 =:21")
	wantComposed(t, swap(), list("3 4 =:33 R0:03 =:12 R0:31 =:01"), list("2 3 =:02 R0:21"), "3 6 =:33 =:04 R0:43 =:12 =:35 R0:51 =:01")
	// Args that come several times
	wantComposed(t, swap(), list("1 1 R0:00"), list("2 3 R0:02 R0:12"), "1 2 R0:01 R0:01")
	// atoms of several relations, with bound variables in the order of the atoms
	wantComposed(t, example(), list("2 3 R1:2 R0:02 R1:1", "1 2 R2:1 R0:10"), list("2 3 R0:02 R0:21", "1 2 R0:01 R1:1", "1 3 R1:2"),
		"2 6 R0:23 R1:3 R0:04 R0:42 R0:15 R1:5", "1 5 R1:3 R0:14 R0:40")
	wantComposed(t, example(), list("1 1 R1:0", "2 2 R1:0 R0:01 R1:1"), list("2 2 R0:10", "1 1 R1:0 R1:0"), "1 1 R1:0 R1:0", "2 2 R1:0 R1:0 R0:10 R1:1 R1:1")
}

func TestLimitsOfComposing(t *testing.T) {
	atoms := func(count int) string { return repeated(" R0:01", count) }
	check := func(want int64, g, h []string) {
		t.Helper()
		front, back := gadgets(g...), gadgets(h...)
		u := madeBy(swap(), back)
		x := madeBy(u, front)
		wantCode(t, "ComposeGadgets", want, impl.ComposeGadgets, x, u, swap(), front, back)
		checkComposed(t, x, u, swap(), front, back)
	}
	// variables
	for vars := 2; vars <= 8; vars++ {
		for bound := 0; bound <= 6; bound++ {
			for count := 1; count <= 3; count++ {
				want := int64(impl.OK)
				if vars+count*bound > 8 {
					want = impl.ErrLimit
				}
				check(want, []string{fmt.Sprint("2 ", vars, atoms(count))}, []string{fmt.Sprint("2 ", 2+bound, " R0:01")})
			}
		}
	}
	// atoms
	for count := 0; count <= 16; count++ {
		for _, by := range []int{0, 1, 2, 3, 4, 5, 8, 15, 16} {
			want := int64(impl.OK)
			if count*by > 16 {
				want = impl.ErrLimit
			}
			check(want, []string{"2 2" + atoms(count)}, []string{"2 2" + atoms(by)})
		}
	}
	check(impl.OK, []string{"2 2 =:00 =:11" + atoms(7)}, []string{"2 2" + atoms(2)})
	check(impl.ErrLimit, []string{"2 2 =:00 =:11 =:01" + atoms(7)}, []string{"2 2" + atoms(2)})
	check(impl.ErrLimit, []string{"2 2" + atoms(7) + " =:00 =:11 =:01"}, []string{"2 2" + atoms(2)})
	check(impl.OK, []string{"2 2" + repeated(" =:01", 16)}, []string{"2 2" + atoms(16)})
	// the formulas count, each by itself
	check(impl.OK, slices.Repeat([]string{"2 4 R0:01 R0:23"}, 6), []string{"2 4" + atoms(8)})
	check(impl.ErrLimit, []string{"2 4 R0:01 R0:23", "2 5 R0:01 R0:23"}, []string{"2 4" + atoms(8)})
	check(impl.ErrLimit, []string{"2 2 R0:01 R0:01 R0:01", "2 2 R0:01"}, []string{"2 2" + atoms(8)})
	check(impl.ErrLimit, append(slices.Repeat([]string{"2 2 R0:01"}, 5), "2 2 R0:01 R0:01"), []string{"2 2" + atoms(9)})
	// formulas of h that no atom names
	check(impl.OK, []string{"2 8 R0:01" + repeated(" =:01", 15)}, []string{"2 2 R0:01", "2 8" + atoms(16)})
}

func TestInvalidArgumentsOfComposing(t *testing.T) {
	path, edge := gadgets("2 3 R0:02 R0:21"), gadgets("2 2 R0:01")
	wantCode(t, "ComposeGadgets", impl.OK, impl.ComposeGadgets, equality(), swap(), swap(), path, edge)
	invalid := func(x, u, v impl.Template, g, h impl.Gadgets) {
		t.Helper()
		wantCode(t, "ComposeGadgets", impl.ErrInvalid, impl.ComposeGadgets, x, u, v, g, h)
	}
	// gadgets in the other order, and with other templates
	invalid(equality(), swap(), swap(), edge, path)
	invalid(equality(), equality(), swap(), path, edge)
	invalid(swap(), swap(), swap(), path, edge)
	invalid(equality(), swap(), equality(), path, edge)
	for _, bad := range []impl.Gadgets{{}, gadgets("2 2"), gadgets("2 2 R1:01"), gadgets("1 2 R0:01"), gadgets("2 2 R0:01", "2 2 R0:01"), {Formulas: []impl.Formula{{}}}} {
		invalid(equality(), swap(), swap(), bad, edge)
		invalid(equality(), swap(), swap(), path, bad)
		invalid(equality(), swap(), swap(), bad, bad)
	}
	for _, bad := range badTemplates() {
		invalid(bad, swap(), swap(), path, edge)
		invalid(equality(), bad, swap(), gadgets("2 2 =:01"), edge)
		invalid(equality(), swap(), bad, path, gadgets("2 2 R0:01"))
		invalid(bad, bad, bad, impl.Gadgets{}, impl.Gadgets{})
		invalid(impl.Template{Size: 2}, impl.Template{Size: 2}, bad, impl.Gadgets{}, impl.Gadgets{})
		invalid(impl.Template{Size: 2}, bad, impl.Template{Size: 2}, impl.Gadgets{}, impl.Gadgets{})
	}
	for size := int64(1); size <= 4; size++ {
		if size != 2 {
			other, two := impl.Template{Size: size}, impl.Template{Size: 2}
			for _, list := range [][3]impl.Template{{other, two, two}, {two, other, two}, {two, two, other}, {other, other, two}, {two, other, other}} {
				invalid(list[0], list[1], list[2], impl.Gadgets{}, impl.Gadgets{})
			}
		}
	}
	// ahead of the limit
	invalid(equality(), swap(), swap(), gadgets("2 7 R0:02 R0:21"), gadgets("2 3 R0:02 R0:21"))
	invalid(swap(), swap(), swap(), gadgets("2 7 R0:02 R0:21"), gadgets("2 4 R0:02 R0:23 R0:31"))
	wantCode(t, "ComposeGadgets", impl.ErrLimit, impl.ComposeGadgets, equality(), swap(), swap(), gadgets("2 7 R0:02 R0:21"), gadgets("2 4 R0:02 R0:23 R0:31"))
}

// isGadgetsText tells by the definition whether a text is that of gadgets.
func isGadgetsText(text string) bool {
	lines := strings.SplitAfter(text, "\n")
	isNone := func(line string) bool {
		return !strings.HasSuffix(line, "\n") || !isFormulaText(strings.TrimSuffix(line, "\n"))
	}
	return lines[len(lines)-1] == "" && len(lines) <= 7 && !slices.ContainsFunc(lines[:len(lines)-1], isNone)
}

// textOfGadgets writes gadgets down.
func textOfGadgets(g impl.Gadgets) string {
	text := ""
	for _, f := range g.Formulas {
		text += "formula " + short(f) + "\n"
	}
	return text
}

func checkGadgetsText(t *testing.T, text string) {
	t.Helper()
	g, code := impl.ReadGadgets(text)
	want := int64(impl.ErrSyntax)
	if isGadgetsText(text) {
		want = impl.OK
	}
	if code != want || code == impl.OK && impl.GadgetsText(g) != text || code != impl.OK && len(g.Formulas) > 0 {
		t.Errorf("ReadGadgets of %q: %v %d", text, g, code)
	}
}

func TestGadgetsTexts(t *testing.T) {
	check := func(g impl.Gadgets) {
		t.Helper()
		text := textOfGadgets(g)
		same(t, fmt.Sprintf("isGadgetsText %q", text), isGadgetsText(text), true)
		wantCall(t, "GadgetsText", []any{text}, impl.GadgetsText, roomyGadgets(g))
		wantCall(t, "ReadGadgets", []any{g, 0}, impl.ReadGadgets, text)
	}
	eachGadgets(96, func(_, _ impl.Template, g impl.Gadgets) { check(g) })
	check(impl.Gadgets{})
	// gadgets that are valid for no templates may have a text
	for count := range 7 {
		for _, f := range append(goodFormulas(), formula("1 1 =:0"), formula("4 8 =:7654 R5:7"), formula("1 8"+repeated(" R5:7777", 16))) {
			check(impl.Gadgets{Formulas: slices.Repeat([]impl.Formula{f}, count)})
		}
	}
	// none, MaxRels, and one more
	good := formula("1 1")
	wantCall(t, "GadgetsText", []any{""}, impl.GadgetsText, impl.Gadgets{})
	wantCall(t, "GadgetsText", []any{""}, impl.GadgetsText, impl.Gadgets{Formulas: []impl.Formula{}})
	wantCall(t, "GadgetsText", []any{repeated("formula 1 1\n", 6)}, impl.GadgetsText, impl.Gadgets{Formulas: slices.Repeat([]impl.Formula{good}, 6)})
	for _, count := range []int{7, 8, 100} {
		wantCall(t, "GadgetsText", []any{""}, impl.GadgetsText, impl.Gadgets{Formulas: slices.Repeat([]impl.Formula{good}, count)})
	}
	// a formula without a text, wherever it stands
	for _, bad := range []impl.Formula{{}, {Free: 1}, {Free: 5, Vars: 5}, {Free: 2, Vars: 1}, {Free: 1, Vars: 9}, formula("1 1 R6:0"), formula("1 1 R0:1"), formula("1 1 R0:"), formula("1 1 R0:00000"), formula("1 1" + repeated(" R0:0", 17)), {Free: 1, Vars: 1, Atoms: []impl.Atom{{Rel: -2, Args: []int64{0}}}}} {
		for at := range 3 {
			wantCall(t, "GadgetsText", []any{""}, impl.GadgetsText, impl.Gadgets{Formulas: slices.Insert([]impl.Formula{good, good}, at, bad)})
		}
		wantCall(t, "GadgetsText", []any{""}, impl.GadgetsText, impl.Gadgets{Formulas: []impl.Formula{bad}})
	}
}

func TestNearGadgetsTexts(t *testing.T) {
	for _, text := range []string{"formula 1 1\n", "formula 2 3 R0:02 R0:21\n", "formula 1 1\nformula 2 2 =:01\n", repeated("formula 1 1\n", 6)} {
		for i, near := range nearTexts(text) {
			checkGadgetsText(t, near)
			if i%9 == 0 {
				for _, nearer := range nearTexts(near) {
					checkGadgetsText(t, nearer)
				}
			}
		}
	}
	line := "formula 1 1\n"
	for _, text := range []string{
		"\n", "\n\n", " ", " \n", "formula 1 1", "formula 1 1\n\n", "\nformula 1 1\n", "formula 1 1\n\nformula 1 1\n", "formula 1 1\nformula 1 1", "formula 1 1\r\n", "formula 1 1\n ", "formula 1 1\n\x00", "formula 1 1 \n", " formula 1 1\n", "formula 1 1;formula 1 1\n",
		"formula 1 1 formula 1 1\n", "formula 2 1\n", "formula 1 9\n", "formula 1 1 R6:0\n", "formula 1 1\nformula 1 1 R0:1\n", "formula 1 1\nformula\n", "formula 1 1\nformula 5 5\nformula 1 1\n", "gadgets\nformula 1 1\n", "gadgets 1\nformula 1 1\n", "1\nformula 1 1\n", "FORMULA 1 1\n", "rel 1 0\n", "op 1 00\n",
		// too many lines
		repeated(line, 7), repeated(line, 8), repeated(line, 100), repeated(line, 6) + "\n", repeated(line, 6) + "formula 1 1", repeated("\n", 7),
	} {
		same(t, fmt.Sprintf("isGadgetsText %q", text), isGadgetsText(text), false)
		wantCode(t, fmt.Sprintf("ReadGadgets %q", text), impl.ErrSyntax, impl.ReadGadgets, text)
	}
	wantCall(t, "ReadGadgets", []any{impl.Gadgets{}, 0}, impl.ReadGadgets, "")
	wantCall(t, "ReadGadgets", []any{"{[{2 3 [{0 [0 2]} {-1 [2 1]}]} {1 1 []}]}", 0}, impl.ReadGadgets, "formula 2 3 R0:02 =:21\nformula 1 1\n")
}

func TestLengthsOfGadgetsTexts(t *testing.T) {
	for _, start := range []string{"", "formula 1 1\n", "formula 1 1", "formula 1 1\nformula 4 8 =:"} {
		for _, filler := range []string{" ", "\n", "0", " R0:0", "formula 1 1\n", "\xff"} {
			text := start + strings.Repeat(filler, impl.MaxText+1)
			wantCode(t, "ReadGadgets of MaxText bytes", impl.ErrSyntax, impl.ReadGadgets, text[:impl.MaxText])
			wantCode(t, "ReadGadgets of one byte more", impl.ErrRange, impl.ReadGadgets, text[:impl.MaxText+1])
		}
	}
	// bytes are counted, not runes
	wantCode(t, "ReadGadgets of two-byte runes", impl.ErrRange, impl.ReadGadgets, strings.Repeat("é", impl.MaxText/2)+"x")
	wantCode(t, "ReadGadgets of a million bytes", impl.ErrRange, impl.ReadGadgets, strings.Repeat("formula 1\n", 100000))
}
