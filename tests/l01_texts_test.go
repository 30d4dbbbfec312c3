package tests

import (
	"fmt"
	"regexp"
	"slices"
	"strings"
	"testing"

	"loop.example/g01085/impl"
)

var (
	relWords      = regexp.MustCompile(`\Arel [1-4]( [0-3]{1,4})*\z`)
	templateWords = regexp.MustCompile(`\Atemplate [1-4]\n(rel [1-4]( [0-3]{1,4})*\n){0,6}\z`)
)

// isRelText tells by the definition whether a text is that of a relation that
// is valid for a size.
func isRelText(text string, size int) bool {
	if !relWords.MatchString(text) {
		return false
	}
	words := strings.Split(text, " ")
	for _, word := range words[2:] {
		if len(word) != int(words[1][0]-'0') || strings.ContainsAny(word, "0123"[size:]) {
			return false
		}
	}
	return slices.IsSorted(words[2:]) && len(slices.Compact(words[2:])) == strings.Count(text, " ")-1
}

// isTemplateText tells by the definition whether a text is that of a template.
func isTemplateText(text string) bool {
	if !templateWords.MatchString(text) {
		return false
	}
	lines := strings.Split(text, "\n")
	for _, line := range lines[1 : len(lines)-1] {
		if !isRelText(line, int(text[9]-'0')) {
			return false
		}
	}
	return true
}

// nearTexts returns all texts that have one byte more, less, another, or two
// next ones changed.
func nearTexts(text string) []string {
	var near []string
	for i := range len(text) + 1 {
		for _, add := range []string{" ", "\n", "\r", "\t", "\x00", "0", "1", "3", "4", "9", "-", "+", "r", "\xff", "é"} {
			near = append(near, text[:i]+add+text[i:])
			if i < len(text) {
				near = append(near, text[:i]+add+text[i+1:])
			}
		}
		if i < len(text) {
			near = append(near, text[:i], text[i:], text[:i]+text[i+1:])
		}
		if i+1 < len(text) {
			near = append(near, text[:i]+text[i+1:i+2]+text[i:i+1]+text[i+2:])
		}
	}
	return near
}

func checkRelText(t *testing.T, text string) {
	t.Helper()
	r, code := impl.ReadRel(text)
	want := int64(impl.ErrSyntax)
	if isRelText(text, 4) {
		want = impl.OK
	}
	if code != want || code == impl.OK && (impl.RelText(r) != text || !impl.ValidRel(4, r)) || code != impl.OK && (r.Arity != 0 || len(r.Tuples) != 0) {
		t.Errorf("ReadRel of %q: %v %d", text, r, code)
	}
}

func checkTemplateText(t *testing.T, text string) {
	t.Helper()
	x, code := impl.ReadTemplate(text)
	want := int64(impl.ErrSyntax)
	if isTemplateText(text) {
		want = impl.OK
	}
	if code != want || code == impl.OK && (impl.TemplateText(x) != text || !impl.ValidTemplate(x)) || code != impl.OK && (x.Size != 0 || len(x.Rels) != 0) {
		t.Errorf("ReadTemplate of %q: %v %d", text, x, code)
	}
}

// textOfRel writes a relation down.
func textOfRel(r impl.Rel) string {
	text := fmt.Sprint("rel ", r.Arity)
	for _, tuple := range r.Tuples {
		text += " "
		for _, value := range tuple {
			text += fmt.Sprint(value)
		}
	}
	return text
}

func TestRelTexts(t *testing.T) {
	eachRel(func(size int64, r impl.Rel) {
		text := textOfRel(r)
		wantCall(t, "RelText", []any{text}, impl.RelText, roomy(r))
		wantCall(t, "ReadRel", []any{r, 0}, impl.ReadRel, text)
	})
	wantCall(t, "RelText", []any{"rel 2 03 30"}, impl.RelText, impl.Rel{Arity: 2, Tuples: [][]int64{{0, 3}, {3, 0}}})
	wantCall(t, "RelText", []any{"rel 3"}, impl.RelText, impl.Rel{Arity: 3})
	for _, bad := range badRels() {
		if !impl.ValidRel(4, bad) {
			wantCall(t, "RelText", []any{""}, impl.RelText, bad)
		}
	}
	wantCall(t, "RelText", []any{""}, impl.RelText, impl.Rel{})
	wantCall(t, "RelText", []any{""}, impl.RelText, impl.Rel{Arity: 1, Tuples: [][]int64{{4}}})
}

func TestNearRelTexts(t *testing.T) {
	for _, text := range []string{"rel 1", "rel 4", "rel 1 0 1", "rel 1 0 1 2 3", "rel 2 01 10", "rel 2 03 12 30", "rel 3 012 333", "rel 4 0000 0001 3210"} {
		checkRelText(t, text)
		for _, near := range nearTexts(text) {
			checkRelText(t, near)
			for i, nearer := range nearTexts(near) {
				if i%7 == 0 {
					checkRelText(t, nearer)
				}
			}
		}
	}
	for _, text := range []string{
		"", " ", "\n", "rel", "rel ", "rel  2", "rel 2 ", " rel 2", "rel 2\n", "rel 2 01\n", "\nrel 2", "rel 2 01  10", "rel 2 01 10 ", "rel 2\t01",
		"rel 02 01", "rel +2 01", "rel -2", "rel 2. 01", "rel 0", "rel 5", "rel 0 ", "rel 10", "rel 9223372036854775807", "rel 99999999999999999999", "rel x",
		"rel 2 10 01", "rel 2 01 01", "rel 2 00 11 10", "rel 2 0", "rel 2 012", "rel 2 04", "rel 2 0x", "rel 2 0-", "rel 2 -1", "rel 1 00", "rel 1 4",
		"Rel 2 01", "REL 2 01", "rel2 01", "rel 201", "rel 2 0 1", "rel 2,01", "op 2 01", "rel 2 \xff\xfe", "rel 2 ٠١", "rel 2 0\x00", "rel 5 00000", "template 2\n",
	} {
		wantCode(t, fmt.Sprintf("ReadRel %q", text), impl.ErrSyntax, impl.ReadRel, text)
		wantCode(t, fmt.Sprintf("ReadTemplate %q", "template 4\n"+text+"\n"), impl.ErrSyntax, impl.ReadTemplate, "template 4\n"+text+"\n")
	}
}

// textOfTemplate writes a template down.
func textOfTemplate(x impl.Template) string {
	text := fmt.Sprint("template ", x.Size, "\n")
	for _, r := range x.Rels {
		text += textOfRel(r) + "\n"
	}
	return text
}

func TestTemplateTexts(t *testing.T) {
	for _, x := range someTemplates() {
		text := textOfTemplate(x)
		wantCall(t, "TemplateText", []any{text}, impl.TemplateText, roomyTemplate(x))
		wantCall(t, "ReadTemplate", []any{x, 0}, impl.ReadTemplate, text)
	}
	wantCall(t, "TemplateText", []any{"template 3\nrel 2 01 20\nrel 1\n"}, impl.TemplateText, impl.Template{Size: 3, Rels: []impl.Rel{{Arity: 2, Tuples: [][]int64{{0, 1}, {2, 0}}}, {Arity: 1}}})
	for _, bad := range badTemplates() {
		wantCall(t, "TemplateText", []any{""}, impl.TemplateText, bad)
	}
	largest := impl.Template{Size: 4}
	for range 6 {
		largest.Rels = append(largest.Rels, relWhere(4, 4, func([]int64) bool { return true }))
	}
	wantCall(t, "ReadTemplate", []any{largest, 0}, impl.ReadTemplate, impl.TemplateText(largest))
	wantCode(t, "seven relations", impl.ErrSyntax, impl.ReadTemplate, impl.TemplateText(largest)+"rel 1\n")
}

func TestNearTemplateTexts(t *testing.T) {
	for _, text := range []string{"template 1\n", "template 4\n", "template 1\nrel 1 0\n", "template 2\nrel 2 01 10\n", "template 3\nrel 1\nrel 2 01 12 20\n", "template 2\nrel 1\nrel 1\nrel 1\nrel 1\nrel 1\nrel 1\n"} {
		checkTemplateText(t, text)
		for _, near := range nearTexts(text) {
			checkTemplateText(t, near)
		}
	}
	for _, text := range []string{
		"", "\n", "template", "template\n", "template \n", "template 2", "template 2\n\n", "\ntemplate 2\n", " template 2\n", "template 2 \n", "template  2\n", "template 2\r\n",
		"template 0\n", "template 5\n", "template -1\n", "template 02\n", "template +2\n", "template 10\n", "template 9223372036854775807\n", "template x\n", "template 2x\n", "Template 2\n",
		"template 2\nrel 2 01", "template 2\nrel 2 01\n\n", "template 2\n\nrel 2 01\n", "template 2\nrel 2 02\n", "template 1\nrel 1 1\n", "template 2\nrel 2 10 01\n", "template 2\nrel 2 01 01\n",
		"template 2\n rel 2 01\n", "template 2\nrel 2 01 \n", "template 2\ntemplate 2\n", "template 2 rel 2 01\n", "rel 2 01\n", "rel 2 01\ntemplate 2\n", "template 0\nrel 1\n", "template 2\nrel 2\x00\n",
	} {
		wantCode(t, fmt.Sprintf("ReadTemplate %q", text), impl.ErrSyntax, impl.ReadTemplate, text)
	}
}

func TestLengthsOfTexts(t *testing.T) {
	for _, start := range []string{"", "rel 1", "rel 1 0 1", "template 2\n", "template 2\nrel 1\n"} {
		for _, filler := range []string{" ", "\n", "0", "x", "\xff"} {
			text := start + strings.Repeat(filler, impl.MaxText+1)
			most, more := text[:impl.MaxText], text[:impl.MaxText+1]
			wantCode(t, "ReadRel of MaxText bytes", impl.ErrSyntax, impl.ReadRel, most)
			wantCode(t, "ReadRel of one byte more", impl.ErrRange, impl.ReadRel, more)
			wantCode(t, "ReadTemplate of MaxText bytes", impl.ErrSyntax, impl.ReadTemplate, most)
			wantCode(t, "ReadTemplate of one byte more", impl.ErrRange, impl.ReadTemplate, more)
		}
	}
	// bytes are counted, not runes
	wantCode(t, "ReadRel of two-byte runes", impl.ErrRange, impl.ReadRel, strings.Repeat("é", impl.MaxText/2)+"x")
	wantCode(t, "ReadTemplate of two-byte runes", impl.ErrRange, impl.ReadTemplate, strings.Repeat("é", impl.MaxText/2)+"x")
	wantCode(t, "ReadRel of a million bytes", impl.ErrRange, impl.ReadRel, strings.Repeat("rel 1 0 ", 125000))
}
