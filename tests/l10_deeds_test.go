package tests

import (
	"fmt"
	"math"
	"regexp"
	"strings"
	"testing"

	"loop.example/g01085/impl"
)

var deedTexts = regexp.MustCompile(`\A(give N N|(work|deliver|copy|drop|spoil) N|save|crash)\z`)

// isDeedText tells by the definition whether a text is that of a deed.
func isDeedText(text string) bool {
	return !strings.Contains(text, "N") && deedTexts.MatchString(lineNumbers.ReplaceAllString(text, "N"))
}

// textOfDeed writes a valid deed down.
func textOfDeed(d impl.Deed) string {
	switch d.Kind {
	case impl.DdGive:
		return fmt.Sprint("give ", d.A, " ", d.B)
	case impl.DdSave, impl.DdCrash:
		return deedWords[d.Kind]
	}
	return fmt.Sprint(deedWords[d.Kind], " ", d.A)
}

// validDeeds returns valid deeds of all kinds, with numbers of all lengths.
func validDeeds() []impl.Deed {
	list := []impl.Deed{{Kind: impl.DdSave}, {Kind: impl.DdCrash}}
	numbers := []int64{0, 1, 9, 10, 99, 100, 101, 998, 999}
	for _, a := range numbers {
		for kind := int64(impl.DdWork); kind <= impl.DdSpoil; kind++ {
			list = append(list, impl.Deed{Kind: kind, A: a})
		}
		for _, b := range numbers {
			list = append(list, impl.Deed{Kind: impl.DdGive, A: a, B: b})
		}
	}
	return list
}

// noDeeds returns deeds that are not valid.
func noDeeds() []impl.Deed {
	var list []impl.Deed
	numbers := []int64{-1, 1000, 1001, 9999, math.MaxInt64, math.MinInt64}
	for _, number := range numbers {
		for kind := int64(1); kind <= 8; kind++ {
			list = append(list, impl.Deed{Kind: kind, A: number}, impl.Deed{Kind: kind, B: number}, impl.Deed{Kind: kind, A: number, B: number})
		}
	}
	// numbers other than 0 that the text does not mention
	for _, number := range []int64{1, 9, 10, 999} {
		for kind := int64(impl.DdWork); kind <= impl.DdCrash; kind++ {
			list = append(list, impl.Deed{Kind: kind, B: number}, impl.Deed{Kind: kind, A: 1, B: number})
		}
		list = append(list, impl.Deed{Kind: impl.DdSave, A: number}, impl.Deed{Kind: impl.DdCrash, A: number})
	}
	for _, kind := range append([]int64{0, 9, 10}, numbers...) {
		list = append(list, impl.Deed{Kind: kind}, impl.Deed{Kind: kind, A: 1}, impl.Deed{Kind: kind, A: 1, B: 1})
	}
	return list
}

func TestValidDeed(t *testing.T) {
	for _, d := range validDeeds() {
		wantCall(t, "ValidDeed", []any{true}, impl.ValidDeed, d)
	}
	for _, d := range noDeeds() {
		wantCall(t, "ValidDeed", []any{false}, impl.ValidDeed, d)
	}
}

func TestDeedTexts(t *testing.T) {
	for _, d := range validDeeds() {
		text := textOfDeed(d)
		same(t, "isDeedText", isDeedText(text), true)
		wantCall(t, "DeedText", []any{text}, impl.DeedText, d)
		wantCall(t, "ReadDeed", []any{d, 0}, impl.ReadDeed, text)
	}
	for _, d := range noDeeds() {
		wantCall(t, "DeedText", []any{""}, impl.DeedText, d)
	}
	for number := range int64(1000) {
		wantCall(t, "ReadDeed", []any{impl.Deed{Kind: 1, A: number, B: 999 - number}, 0}, impl.ReadDeed, fmt.Sprint("give ", number, " ", 999-number))
		wantCall(t, "DeedText", []any{fmt.Sprint("spoil ", number)}, impl.DeedText, impl.Deed{Kind: 6, A: number})
	}
	for text, want := range map[string]string{
		"give 1 2": "{1 1 2}", "give 2 1": "{1 2 1}", "work 3": "{2 3 0}", "deliver 4": "{3 4 0}", "copy 5": "{4 5 0}", "drop 6": "{5 6 0}", "spoil 7": "{6 7 0}", "save": "{7 0 0}", "crash": "{8 0 0}",
	} {
		wantCall(t, "ReadDeed", []any{want, 0}, impl.ReadDeed, text)
	}
}

func checkDeedText(t *testing.T, text string) {
	t.Helper()
	d, code := impl.ReadDeed(text)
	want := int64(impl.ErrSyntax)
	if isDeedText(text) {
		want = impl.OK
	}
	isRead := code == impl.OK && impl.ValidDeed(d) && impl.DeedText(d) == text
	isNone := code != impl.OK && d == impl.Deed{}
	if code != want || !isRead && !isNone {
		t.Errorf("ReadDeed of %q: %v %d", text, d, code)
	}
}

func TestNearDeedTexts(t *testing.T) {
	for _, text := range []string{"give 0 0", "give 10 999", "work 0", "deliver 99", "copy 100", "drop 0", "spoil 999", "save", "crash"} {
		checkDeedText(t, text)
		for i, near := range nearTexts(text) {
			checkDeedText(t, near)
			if i%3 == 0 {
				for _, nearer := range nearTexts(near) {
					checkDeedText(t, nearer)
				}
			}
		}
	}
}

// textsWithoutDeed are texts of one line that are no text of a deed.
func textsWithoutDeed() []string {
	list := []string{
		" ", "0", "1", "0 0", "  ", "   ", " 0",
		// numbers that are none or too great
		"work 1000", "give 1000 0", "give 0 1000", "copy 9223372036854775807", "copy 9223372036854775808", "copy 18446744073709551616", "copy 99999999999999999999999999", "drop 1.", "drop 1.0", "drop 0x1", "drop 1e1", "drop 1_0", "drop x", "drop ٣", "drop \xff", "drop 1\x00",
		// words that are none
		"Give 0 0", "GIVE 0 0", "gives 0 0", "giv 0 0", "give0 0", "give0 0 0", "take 0 0", "choose 0 0", "remove 0 0 0", "empty 0", "work0", "delivered 0", "Save", "saves", "sav", "savecrash", "save crash", "crash save", "load", "work work 0", "give give 0 0",
		"give 0,0", "give 00", "give\t0 0", "work\t0", "work\u00a00", "save\r", "crash\r", "save\x00", "work 0\r",
	}
	for _, text := range []string{"give 0 0", "work 0", "deliver 0", "copy 0", "drop 0", "spoil 0", "save", "crash"} {
		words := strings.Split(text, " ")
		// blanks too many, and words too many and too few
		list = append(list, " "+text, text+" ", text+" 0", text+" 0 0", strings.Join(words[:len(words)-1], " ")+" ", strings.Join(words, "  "), text+" save")
		if len(words) == 1 {
			list[len(list)-2] = text + "  "
			continue
		}
		list = append(list, words[0], words[0]+" ", words[0]+"0")
		// leading zeros and signs
		front := strings.TrimSuffix(text, "0")
		list = append(list, front+"00", front+"01", front+"-0", front+"+0", front+"-1", front+"+1", front+"010")
	}
	return append(list, "give 00 0", "give 01 0", "give -0 0", "give +0 0", "give -1 0", "give  0 0", "give 0")
}

func TestTextsThatAreNoDeeds(t *testing.T) {
	list := append(textsWithoutDeed(), "", "\n", "save\n", "\nsave", "save\n\n", "work 0\n", "\nwork 0", "work\n0", "give 0\n0", "give 0 0\n", "save\ncrash", "save\ncrash\n", "work 0\nwork 0")
	for _, text := range list {
		wantCall(t, fmt.Sprintf("ReadDeed %q", text), []any{impl.Deed{}, impl.ErrSyntax}, impl.ReadDeed, text)
	}
	for _, text := range []string{"save", "work 0", "give 0 0", " ", "0", "\n", "\xff"} {
		wantCode(t, "ReadDeed of a long text", impl.ErrSyntax, impl.ReadDeed, strings.Repeat(text, 100000))
	}
}
