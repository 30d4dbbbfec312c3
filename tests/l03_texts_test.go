package tests

import (
	"fmt"
	"regexp"
	"strings"
	"testing"

	"loop.example/g01085/impl"
)

var formulaWords = regexp.MustCompile(`\Aformula [1-4] [1-8]( (=|R[0-5]):[0-7]{1,4}){0,16}\z`)

// isFormulaText tells by the definition whether a text is that of a formula.
func isFormulaText(text string) bool {
	if !formulaWords.MatchString(text) || text[8] > text[10] {
		return false
	}
	for _, word := range strings.Split(text, " ")[3:] {
		_, digits, _ := strings.Cut(word, ":")
		if strings.ContainsAny(digits, "01234567"[text[10]-'0':]) {
			return false
		}
	}
	return true
}

func checkFormulaText(t *testing.T, text string) {
	t.Helper()
	f, code := impl.ReadFormula(text)
	want := int64(impl.ErrSyntax)
	if isFormulaText(text) {
		want = impl.OK
	}
	if code != want || code == impl.OK && impl.FormulaText(f) != text || code != impl.OK && (f.Free != 0 || f.Vars != 0 || len(f.Atoms) != 0) {
		t.Errorf("ReadFormula of %q: %v %d", text, f, code)
	}
}

func TestFormulaTexts(t *testing.T) {
	check := func(f impl.Formula) {
		text := "formula " + short(f)
		wantCall(t, "FormulaText", []any{text}, impl.FormulaText, roomyFormula(f))
		wantCall(t, "ReadFormula", []any{f, 0}, impl.ReadFormula, text)
	}
	eachFormula(5, func(_ impl.Template, f impl.Formula) { check(f) })
	for _, f := range goodFormulas() {
		check(f)
	}
	// a formula that is valid for no template may have a text
	for _, text := range []string{"1 1 =:0", "1 2 =:011", "4 8 =:7654 R5:7", "1 1 R0:0 R0:00 R0:000 R0:0000", "1 8" + repeated(" R5:7777", 16), "2 2 R0:01 R0:0"} {
		check(formula(text))
	}
	for _, text := range []string{"1 1", "1 8", "4 4", "4 8", "2 3 R0:02 R0:21", "2 3 =:12"} {
		wantCall(t, "FormulaText", []any{"formula " + text}, impl.FormulaText, formula(text))
	}
}

func TestFormulasWithoutText(t *testing.T) {
	list := []impl.Formula{{}, {Free: 0, Vars: 1}, {Free: 5, Vars: 5}, {Free: 5, Vars: 8}, {Free: 2, Vars: 1}, {Free: 1, Vars: 9}, {Free: 4, Vars: 3}}
	for _, text := range []string{"1 1 R6:0", "1 1 R9:0", "1 1 R0:", "1 1 =:", "1 1 R0:00000", "1 1 =:00000", "1 1 R0:1", "2 3 R0:03", "4 8 R0:8", "4 8 =:79", "1 1 R0:0 R0:1", "1 1" + repeated(" =:00", 17)} {
		list = append(list, formula(text))
	}
	for _, number := range farAway {
		list = append(list, impl.Formula{Free: number, Vars: 8}, impl.Formula{Free: 1, Vars: number}, impl.Formula{Free: number, Vars: number})
		list = append(list, impl.Formula{Free: 1, Vars: 2, Atoms: []impl.Atom{{Rel: 0, Args: []int64{number}}}})
	}
	for _, rel := range noRels {
		if rel != impl.EqualAtom {
			list = append(list, impl.Formula{Free: 1, Vars: 2, Atoms: []impl.Atom{{Rel: rel, Args: []int64{0, 1}}}})
		}
	}
	for _, f := range list {
		wantCall(t, "FormulaText", []any{""}, impl.FormulaText, f)
	}
}

func TestNearFormulaTexts(t *testing.T) {
	for i, text := range []string{"formula 1 1", "formula 4 8", "formula 2 3 R0:02 R0:21", "formula 2 3 R0:01 =:12", "formula 3 3 =:0", "formula 2 2 R5:0101 =:10", "formula 1 2" + repeated(" =:0", 16)} {
		checkFormulaText(t, text)
		for j, near := range nearTexts(text) {
			checkFormulaText(t, near)
			if i > 3 || j%5 > 0 {
				continue
			}
			for _, nearer := range nearTexts(near) {
				checkFormulaText(t, nearer)
			}
		}
	}
	for _, text := range []string{
		"", " ", "\n", "formula", "formula ", "formula 1", "formula 1 ", "formula  1 1", "formula 1  1", " formula 1 1", "formula 1 1 ", "formula 1 1\n", "\nformula 1 1", "formula\t1 1", "formula 1\n1", "formula 1 1  R0:0", "formula 1 1 R0:0 ", "formula 1 1 R0:0\n", "formula 1 1\nR0:0", "formula 1 1\tR0:0",
		"formula 01 1", "formula 1 01", "formula +1 1", "formula 1 +1", "formula -1 1", "formula 1 -1", "formula 0 1", "formula 0 0", "formula 1 0", "formula 2 1", "formula 5 5", "formula 1 9", "formula 4 10", "formula 1 08", "formula x 1", "formula 1 x", "formula 1. 1", "formula 11", "formula 1,1", "formula 9223372036854775807 1", "formula 1 99999999999999999999",
		"formula 1 1 R0", "formula 1 1 R0:", "formula 1 1 R:0", "formula 1 1 :0", "formula 1 1 0", "formula 1 1 R00:0", "formula 1 1 R6:0", "formula 1 1 R9:0", "formula 1 1 R10:0", "formula 1 1 R-1:0", "formula 1 1 R+0:0", "formula 1 1 r0:0", "formula 1 1 R 0:0", "formula 1 1 R0: 0", "formula 1 1 R0 :0", "formula 1 1 0R:0", "formula 1 1 RR0:0", "formula 1 1 Rx:0",
		"formula 1 1 =", "formula 1 1 =:", "formula 1 1 ==:00", "formula 1 1 =0:00", "formula 1 1 =:0:0", "formula 1 1 R0::0", "formula 1 1 R0:0:", "formula 1 1 = :00", "formula 1 1 E:00", "formula 1 1 -1:00", "formula 1 1 R=:00", "formula 1 1 =R0:00",
		"formula 1 1 R0:1", "formula 1 2 R0:02", "formula 1 8 R0:8", "formula 1 8 R0:9", "formula 1 2 =:02", "formula 1 1 R0:00000", "formula 1 1 =:00000", "formula 1 1 R0:x", "formula 1 1 R0:0,0", "formula 1 1 R0:-0", "formula 1 1 R0:0x", "formula 1 1 R0:٠", "formula 1 1 R0:\xff", "formula 1 1 R0:0\x00", "formula 1 1 \x00", "formula 1 1\xff",
		"Formula 1 1", "FORMULA 1 1", "formulas 1 1", "formul 1 1", "formula1 1", "rel 1 1", "op 1 1", "formula 1 1" + repeated(" R0:0", 17), "formula 1 1 formula 1 1", "formula R0:0 1 1",
	} {
		same(t, fmt.Sprintf("isFormulaText %q", text), isFormulaText(text), false)
		wantCode(t, fmt.Sprintf("ReadFormula %q", text), impl.ErrSyntax, impl.ReadFormula, text)
	}
}

func TestLengthsOfFormulaTexts(t *testing.T) {
	for _, start := range []string{"", "formula ", "formula 1 1", "formula 1 1 R0:0", "formula 4 8 =:"} {
		for _, filler := range []string{" ", "\n", "0", " R0:0", "\xff"} {
			text := start + strings.Repeat(filler, impl.MaxText+1)
			wantCode(t, "ReadFormula of MaxText bytes", impl.ErrSyntax, impl.ReadFormula, text[:impl.MaxText])
			wantCode(t, "ReadFormula of one byte more", impl.ErrRange, impl.ReadFormula, text[:impl.MaxText+1])
		}
	}
	// bytes are counted, not runes
	wantCode(t, "ReadFormula of two-byte runes", impl.ErrRange, impl.ReadFormula, strings.Repeat("é", impl.MaxText/2)+"x")
	wantCode(t, "ReadFormula of a million bytes", impl.ErrRange, impl.ReadFormula, strings.Repeat("formula 1 ", 100000))
}
