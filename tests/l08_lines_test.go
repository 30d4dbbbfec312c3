package tests

import (
	"fmt"
	"math"
	"regexp"
	"slices"
	"strings"
	"testing"

	"loop.example/g01085/impl"
)

var lineWords = regexp.MustCompile(`\A(choose N N|remove N N N|empty N)\z`)

var lineNumbers = regexp.MustCompile(`\b(0|[1-9][0-9]{0,2})\b`)

// isLineText tells by the definition whether a text is that of a line.
func isLineText(text string) bool {
	return !strings.Contains(text, "N") && lineWords.MatchString(lineNumbers.ReplaceAllString(text, "N"))
}

// textOfLine writes a valid line down.
func textOfLine(l impl.Line) string {
	switch l.Kind {
	case impl.LnChoose:
		return fmt.Sprintf("choose %d %d", l.Var, l.Value)
	case impl.LnRemove:
		return fmt.Sprintf("remove %d %d %d", l.Var, l.Value, l.Con)
	}
	return fmt.Sprintf("empty %d", l.Var)
}

// validLines returns valid lines of all kinds, with numbers of all lengths.
func validLines() []impl.Line {
	var list []impl.Line
	numbers := []int64{0, 1, 9, 10, 99, 100, 101, 998, 999}
	for _, a := range numbers {
		list = append(list, impl.Line{Kind: impl.LnEmpty, Var: a})
		for _, b := range numbers {
			list = append(list, impl.Line{Kind: impl.LnChoose, Var: a, Value: b}, impl.Line{Kind: impl.LnRemove, Var: a, Value: b, Con: 10}, impl.Line{Kind: impl.LnRemove, Var: 999, Value: a, Con: b})
		}
	}
	return list
}

// noLines returns lines that are not valid.
func noLines() []impl.Line {
	var list []impl.Line
	numbers := []int64{-1, 1000, 1001, 9999, math.MaxInt64, math.MinInt64}
	for _, number := range numbers {
		for kind := int64(1); kind <= 3; kind++ {
			list = append(list, impl.Line{Kind: kind, Var: number}, impl.Line{Kind: kind, Value: number}, impl.Line{Kind: kind, Con: number})
		}
	}
	// numbers other than 0 that the text does not mention
	for _, number := range []int64{1, 9, 10, 999} {
		list = append(list, impl.Line{Kind: impl.LnChoose, Con: number}, impl.Line{Kind: impl.LnEmpty, Value: number}, impl.Line{Kind: impl.LnEmpty, Con: number}, impl.Line{Kind: impl.LnEmpty, Var: 1, Value: number, Con: number})
	}
	for _, kind := range append([]int64{0, 4, 5}, numbers...) {
		list = append(list, impl.Line{Kind: kind}, impl.Line{Kind: kind, Var: 1}, impl.Line{Kind: kind, Var: 1, Value: 1, Con: 1})
	}
	return list
}

func TestValidLine(t *testing.T) {
	for _, l := range validLines() {
		wantCall(t, "ValidLine", []any{true}, impl.ValidLine, l)
	}
	for _, l := range noLines() {
		wantCall(t, "ValidLine", []any{false}, impl.ValidLine, l)
	}
}

func TestLineTexts(t *testing.T) {
	for _, l := range validLines() {
		text := textOfLine(l)
		same(t, "isLineText", isLineText(text), true)
		wantCall(t, "LineText", []any{text}, impl.LineText, l)
		wantCall(t, "ReadLine", []any{l, 0}, impl.ReadLine, text)
	}
	for _, l := range noLines() {
		wantCall(t, "LineText", []any{""}, impl.LineText, l)
		if text := textOfLine(l); !isLineText(text) {
			wantCode(t, "ReadLine", impl.ErrSyntax, impl.ReadLine, text)
		}
	}
	for number := range int64(1000) {
		wantCall(t, "ReadLine", []any{impl.Line{Kind: 2, Var: number, Value: 999 - number, Con: number}, 0}, impl.ReadLine, fmt.Sprint("remove ", number, " ", 999-number, " ", number))
	}
	wantCall(t, "ReadLine", []any{"{2 1 2 3}", 0}, impl.ReadLine, "remove 1 2 3")
	wantCall(t, "ReadLine", []any{"{1 1 2 0}", 0}, impl.ReadLine, "choose 1 2")
	wantCall(t, "ReadLine", []any{"{3 1 0 0}", 0}, impl.ReadLine, "empty 1")
}

func checkLineText(t *testing.T, text string) {
	t.Helper()
	l, code := impl.ReadLine(text)
	want := int64(impl.ErrSyntax)
	if isLineText(text) {
		want = impl.OK
	}
	isRead := code == impl.OK && impl.ValidLine(l) && impl.LineText(l) == text
	isNone := code != impl.OK && l == impl.Line{}
	if code != want || !isRead && !isNone {
		t.Errorf("ReadLine of %q: %v %d", text, l, code)
	}
}

func TestNearLineTexts(t *testing.T) {
	for _, text := range []string{"choose 0 0", "choose 10 999", "remove 1 2 3", "remove 0 99 100", "empty 0", "empty 999"} {
		checkLineText(t, text)
		for i, near := range nearTexts(text) {
			checkLineText(t, near)
			if i%3 == 0 {
				for _, nearer := range nearTexts(near) {
					checkLineText(t, nearer)
				}
			}
		}
	}
}

// textsWithoutLine are texts of one line at most that are no text of a line.
func textsWithoutLine() []string {
	return []string{
		" ", "0", "1", "0 0", "choose", "remove", "empty", "choose ", "remove ", "empty ", " 0", "  ", "   ",
		// words too few, and too many
		"choose 0", "remove 0", "remove 0 0", "choose 0 0 0", "remove 0 0 0 0", "empty 0 0", "empty 0 0 0", "choose choose 0 0", "empty empty",
		// blanks too many, or others
		" choose 0 0", "choose  0 0", "choose 0  0", "choose 0 0 ", "choose 0 ", " empty 0", "empty  0", "empty 0 ", "remove 0 0  0", "remove 0 0 0 ", "remove 0 0 ", "choose\t0 0", "choose 0\t0", "choose 0,0", "choose 00", "empty\u00a00",
		// leading zeros, signs, and numbers that are none or too great
		"choose 00 0", "choose 0 00", "choose 01 0", "empty 01", "empty 00", "empty 010", "remove 0 0 01", "choose +0 0", "choose 0 +1", "choose -0 0", "choose 0 -1", "empty -0", "empty -1", "empty +1", "remove 0 0 -1", "choose 1000 0", "choose 0 1000", "empty 1000", "remove 0 1000 0", "remove 0 0 1000", "empty 9223372036854775807", "empty 9223372036854775808", "empty 18446744073709551616", "empty 99999999999999999999999999", "empty 1.", "empty 1.0", "empty 0x1", "empty 1e1", "empty 1_0", "empty x", "empty ٣", "empty \xff", "empty 1\x00",
		// words that are none
		"Choose 0 0", "CHOOSE 0 0", "chose 0 0", "chooses 0 0", "choose0 0", "choos 0 0", "removed 0 0 0", "Empty 0", "emptyy 0", "empt 0", "go", "give 0 0", "1 0 0", "clear 0",
		"choose 0 0\r", "empty 0\r", "empty 0\x00",
	}
}

func TestTextsThatAreNoLines(t *testing.T) {
	for _, text := range append(textsWithoutLine(), "", "\n", "choose 0 0\n", "\nchoose 0 0", "empty 0\n", "empty\n0", "empty 0\n\n", "empty 0\nempty 0", "empty 0\nempty 0\n") {
		same(t, fmt.Sprintf("isLineText %q", text), isLineText(text), false)
		wantCode(t, fmt.Sprintf("ReadLine %q", text), impl.ErrSyntax, impl.ReadLine, text)
	}
	for _, start := range []string{"", "choose ", "choose 0 ", "empty 0", "remove 0 0 0"} {
		for _, filler := range []string{" ", "0", "9", "0 ", " 0", "\n", "\xff", "-"} {
			wantCode(t, "ReadLine of many bytes", impl.ErrSyntax, impl.ReadLine, start+strings.Repeat(filler, 1000000/len(filler)))
		}
	}
}

// textOfLines writes valid lines down.
func textOfLines(list []impl.Line) string {
	var b strings.Builder
	for _, l := range list {
		b.WriteString(textOfLine(l) + "\n")
	}
	return b.String()
}

func TestRefutationTexts(t *testing.T) {
	check := func(list []impl.Line) {
		wantCall(t, "RefutationText", []any{textOfLines(list)}, impl.RefutationText, roomyLines(list))
		wantCall(t, "ReadRefutation", []any{list, 0}, impl.ReadRefutation, textOfLines(list))
	}
	all := validLines()
	for _, list := range [][]impl.Line{nil, all[:1], all[1:2], all[2:3], all, append(slices.Clone(all), all...)} {
		check(list)
	}
	eachRefuted(84, 60, func(_ impl.Template, _ impl.Instance, list []impl.Line) { check(list) })
	wantCall(t, "RefutationText", []any{""}, impl.RefutationText, []impl.Line{})
	wantCall(t, "RefutationText", []any{"empty 1\nremove 1 2 3\nchoose 4 5\n"}, impl.RefutationText, lines("e1 r123 c45"))
	wantCall(t, "ReadRefutation", []any{"[{3 1 0 0} {2 1 2 3} {1 4 5 0}]", 0}, impl.ReadRefutation, "empty 1\nremove 1 2 3\nchoose 4 5\n")
	// one line that is not valid, wherever it stands
	for _, l := range noLines() {
		for at := range 3 {
			wantCall(t, "RefutationText", []any{""}, impl.RefutationText, slices.Insert(lines("c00 e0"), at, l))
		}
		wantCall(t, "RefutationText", []any{""}, impl.RefutationText, []impl.Line{l})
	}
	for _, text := range textsWithoutLine() {
		for _, whole := range []string{text, text + "\n", "empty 0\n" + text + "\n", text + "\nempty 0\n", "empty 0\n" + text + "\nempty 0\n"} {
			wantCode(t, fmt.Sprintf("ReadRefutation %q", whole), impl.ErrSyntax, impl.ReadRefutation, whole)
		}
	}
	// ends of lines
	for _, text := range []string{"\n", "\n\n", "empty 0", "empty 0\n\n", "\nempty 0\n", "empty 0\n\nempty 0\n", "empty 0\nempty 0", "empty 0\r\n", "empty 0\n ", "empty 0;empty 0\n", "\nempty 0"} {
		wantCode(t, fmt.Sprintf("ReadRefutation %q", text), impl.ErrSyntax, impl.ReadRefutation, text)
	}
}

func TestNearRefutationTexts(t *testing.T) {
	for _, text := range []string{"empty 0\n", "choose 0 0\nempty 1\n", "remove 10 2 3\nempty 4\n"} {
		for _, near := range nearTexts(text) {
			body, ended := strings.CutSuffix(near, "\n")
			isNone := func(line string) bool { return !isLineText(line) }
			want := int64(impl.ErrSyntax)
			if near == "" || ended && !slices.ContainsFunc(strings.Split(body, "\n"), isNone) {
				want = impl.OK
			}
			list, code := impl.ReadRefutation(near)
			if code != want || code == impl.OK && impl.RefutationText(list) != near || code != impl.OK && len(list) > 0 {
				t.Errorf("ReadRefutation of %q: %v %d", near, list, code)
			}
		}
	}
}

func TestLongRefutationTexts(t *testing.T) {
	longest := slices.Repeat([]impl.Line{{Kind: impl.LnRemove, Var: 999, Value: 998, Con: 997}}, 4001)
	for _, l := range []impl.Line{{Kind: impl.LnEmpty}, longest[0]} {
		list := slices.Repeat([]impl.Line{l}, 4001)
		wantCall(t, "RefutationText", []any{textOfLines(list[:4000])}, impl.RefutationText, list[:4000])
		wantCall(t, "ReadRefutation", []any{list[:4000], 0}, impl.ReadRefutation, textOfLines(list[:4000]))
		// one line more
		wantCall(t, "RefutationText", []any{""}, impl.RefutationText, list)
		wantCode(t, "ReadRefutation", impl.ErrLimit, impl.ReadRefutation, textOfLines(list))
		// the last line counts without its end, too
		wantCode(t, "ReadRefutation", impl.ErrSyntax, impl.ReadRefutation, strings.TrimSuffix(textOfLines(list[:4000]), "\n"))
		wantCode(t, "ReadRefutation", impl.ErrLimit, impl.ReadRefutation, strings.TrimSuffix(textOfLines(list), "\n"))
	}
	// too many lines ahead of lines that are none
	wantCode(t, "ReadRefutation", impl.ErrSyntax, impl.ReadRefutation, strings.Repeat("\n", 4000))
	wantCode(t, "ReadRefutation", impl.ErrLimit, impl.ReadRefutation, strings.Repeat("\n", 4001))
	wantCode(t, "ReadRefutation", impl.ErrLimit, impl.ReadRefutation, "none"+textOfLines(longest))
	wantCode(t, "ReadRefutation", impl.ErrSyntax, impl.ReadRefutation, strings.Repeat("empty 0\n", 3999)+"none\n")
	// too many bytes ahead of both
	for _, filler := range []string{" ", "0", "\xff", "empty 0 "} {
		text := strings.Repeat(filler, 200000/len(filler))
		wantCode(t, "ReadRefutation of 160000 bytes", impl.ErrSyntax, impl.ReadRefutation, text[:160000])
		wantCode(t, "ReadRefutation of one byte more", impl.ErrRange, impl.ReadRefutation, text[:160001])
	}
	for _, filler := range []string{"\n", "empty 0\n", "choose 0 0\n"} {
		text := strings.Repeat(filler, 200000/len(filler))
		wantCode(t, "ReadRefutation of 160000 bytes", impl.ErrLimit, impl.ReadRefutation, text[:160000])
		wantCode(t, "ReadRefutation of one byte more", impl.ErrRange, impl.ReadRefutation, text[:160001])
	}
	wantCode(t, "ReadRefutation of a million bytes", impl.ErrRange, impl.ReadRefutation, strings.Repeat("empty 0\n", 125000))
}
