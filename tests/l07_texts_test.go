package tests

import (
	"fmt"
	"math/rand/v2"
	"regexp"
	"strings"
	"testing"

	"loop.example/g01085/impl"
)

var systemWords = regexp.MustCompile(`\Asystem [23] (1[0-2]|[1-9])\n([0-2]{1,12} = [0-2]\n){0,24}\z`)

// isSystemText tells by the definition whether a text is that of a system.
func isSystemText(text string) bool {
	if !systemWords.MatchString(text) {
		return false
	}
	lines := strings.Split(text, "\n")
	for _, line := range lines[1 : len(lines)-1] {
		if fmt.Sprint(strings.Index(line, " ")) != lines[0][9:] || text[7] == '2' && strings.Contains(line, "2") {
			return false
		}
	}
	return true
}

func checkSystemText(t *testing.T, text string) {
	t.Helper()
	s, code := impl.ReadSystem(text)
	want := int64(impl.ErrSyntax)
	if isSystemText(text) {
		want = impl.OK
	}
	isRead := code == impl.OK && impl.ValidSystem(s) && impl.SystemText(s) == text
	isNone := code != impl.OK && s.Prime == 0 && s.Unknowns == 0 && len(s.List) == 0
	if code != want || !isRead && !isNone {
		t.Errorf("ReadSystem of %q: %v %d", text, s, code)
	}
}

// textOfSystem writes a system down.
func textOfSystem(s impl.System) string {
	text := fmt.Sprintf("system %d %d\n", s.Prime, s.Unknowns)
	for _, e := range s.List {
		for _, number := range e.Left {
			text += fmt.Sprint(number)
		}
		text += fmt.Sprintf(" = %d\n", e.Right)
	}
	return text
}

func TestSystemTexts(t *testing.T) {
	check := func(s impl.System) {
		text := textOfSystem(s)
		same(t, "isSystemText", isSystemText(text), true)
		wantCall(t, "SystemText", []any{text}, impl.SystemText, roomySystem(s))
		wantCall(t, "ReadSystem", []any{s, 0}, impl.ReadSystem, text)
	}
	eachSystem(41, 200, check)
	for _, s := range goodSystems() {
		check(s)
	}
	source := rand.New(rand.NewPCG(42, 7))
	for unknowns := int64(1); unknowns <= 12; unknowns++ {
		for _, prime := range []int64{2, 3} {
			for _, count := range []int{0, 1, 23, 24} {
				check(randomSystem(source, prime, unknowns, count, 100))
			}
		}
	}
	wantCall(t, "SystemText", []any{"system 2 3\n110 = 1\n011 = 1\n101 = 1\n"}, impl.SystemText, system("2 3 110=1 011=1 101=1"))
	wantCall(t, "SystemText", []any{"system 3 12\n"}, impl.SystemText, system("3 12"))
	wantCall(t, "SystemText", []any{"system 3 12\n012012012012 = 2\n"}, impl.SystemText, system("3 12 012012012012=2"))
	wantCall(t, "ReadSystem", []any{"{2 1 []}", 0}, impl.ReadSystem, "system 2 1\n")
	wantCall(t, "ReadSystem", []any{"{3 2 [{[2 0] 1} {[0 0] 0}]}", 0}, impl.ReadSystem, "system 3 2\n20 = 1\n00 = 0\n")
	for _, s := range badSystems() {
		wantCall(t, "SystemText", []any{""}, impl.SystemText, s)
	}
}

func TestNearSystemTexts(t *testing.T) {
	for i, text := range []string{"system 2 1\n", "system 3 12\n", "system 2 3\n110 = 1\n011 = 1\n", "system 3 2\n02 = 2\n", "system 2 12\n101010101010 = 1\n", "system 3 10\n0120120120 = 0\n", "system 2 1\n" + repeated("1 = 0\n", 24)} {
		checkSystemText(t, text)
		for j, near := range nearTexts(text) {
			checkSystemText(t, near)
			if i > 3 || j%3 > 0 {
				continue
			}
			for _, nearer := range nearTexts(near) {
				checkSystemText(t, nearer)
			}
		}
	}
}

func TestTextsThatAreNoSystems(t *testing.T) {
	for _, text := range []string{
		"", " ", "\n", "\n\n", "system", "system ", "system\n", "system \n", "system 2\n", "system 2 \n", "system  1\n", "system 2 1", "system 2 1 \n", " system 2 1\n", "system  2 1\n", "system 2  1\n", "system 2 1\n ", "system 2 1\n\n", "\nsystem 2 1\n", "system 2 1\r\n", "system\t2 1\n", "system 2\t1\n", "system 2\n1\n", "system 2 1 1\n", "system 2 1 0 = 0\n", "System 2 1\n", "systems 2 1\n", "syste 2 1\n", "system2 1\n", "system 21\n",
		// primes and unknowns that are none, or are written in another way
		"system 0 1\n", "system 1 1\n", "system 4 1\n", "system 5 1\n", "system 02 1\n", "system +2 1\n", "system -2 1\n", "system 2. 1\n", "system 22 1\n", "system 0x2 1\n", "system x 1\n", "system 18446744073709551618 1\n",
		"system 2 0\n", "system 2 13\n", "system 2 20\n", "system 2 01\n", "system 2 012\n", "system 2 00\n", "system 2 +1\n", "system 2 -1\n", "system 2 -0\n", "system 2 1.\n", "system 2 1_0\n", "system 2 1e1\n", "system 2 x\n", "system 2 100\n", "system 2 9223372036854775807\n", "system 2 9223372036854775808\n", "system 2 18446744073709551617\n", "system 2 99999999999999999999999\n",
		// equations
		"system 2 2\n11 = 1", "system 2 2\n11 = 1\n\n", "system 2 2\n\n11 = 1\n", "system 2 2\n11 = 1 \n", "system 2 2\n 11 = 1\n", "system 2 2\n11  = 1\n", "system 2 2\n11 =  1\n", "system 2 2\n11= 1\n", "system 2 2\n11 =1\n", "system 2 2\n11=1\n", "system 2 2\n1 1 = 1\n", "system 2 2\n11\t= 1\n", "system 2 2\n11 == 1\n", "system 2 2\n11 = = 1\n", "system 2 2\n11 = 1 = 1\n", "system 2 2\n11 1\n", "system 2 2\n= 1\n", "system 2 2\n = 1\n", "system 2 2\n11 =\n", "system 2 2\n11 = \n", "system 2 2\n11\n", "system 2 2\n=\n", "system 2 2\n = \n",
		"system 2 2\n1 = 1\n", "system 2 2\n111 = 1\n", "system 2 2\n11 = 01\n", "system 2 2\n11 = 11\n", "system 2 2\n11 = +1\n", "system 2 2\n11 = -1\n", "system 2 2\n11 = -0\n", "system 2 2\n+1 = 1\n", "system 2 2\n-1 = 1\n", "system 2 2\n1- = 1\n", "system 2 2\n11 = 2\n", "system 2 2\n12 = 1\n", "system 2 2\n21 = 1\n", "system 3 2\n13 = 1\n", "system 3 2\n11 = 3\n", "system 3 2\n11 = 9\n", "system 2 2\nx1 = 1\n", "system 2 2\n11 = x\n", "system 2 2\n1١ = 1\n", "system 2 2\n11 = ١\n", "system 2 2\n11 = \xff\n", "system 2 2\n11 = 1\x00\n", "system 2 2\n11 = 1\r\n", "system 2 12\n1111111111111 = 1\n", "system 2 13\n1111111111111 = 1\n",
		"system 2 2\nsystem 2 2\n", "system 2 2\n11 = 1\nsystem 2 2\n", "11 = 1\n", "11 = 1\nsystem 2 2\n", "system 2 1\n" + repeated("1 = 0\n", 25), "system 2 1\n" + repeated("1 = 0\n", 23) + "1 = 0", "template 2\n", "instance 2\n",
	} {
		same(t, fmt.Sprintf("isSystemText %q", text), isSystemText(text), false)
		wantCode(t, fmt.Sprintf("ReadSystem %q", text), impl.ErrSyntax, impl.ReadSystem, text)
	}
	// no text is too long to be looked at, but none of so many bytes is that of a system
	for _, start := range []string{"", "system ", "system 2 ", "system 2 1\n", "system 2 1\n1 = ", "system 3 12\n"} {
		for _, filler := range []string{" ", "\n", "0", "1 = 0\n", "000000000000 = 0\n", "\xff"} {
			for _, length := range []int{impl.MaxText, impl.MaxText + 1, 1000000} {
				text := start + strings.Repeat(filler, length/len(filler)+1)
				wantCode(t, "ReadSystem of many bytes", impl.ErrSyntax, impl.ReadSystem, text[:length])
			}
		}
	}
}
