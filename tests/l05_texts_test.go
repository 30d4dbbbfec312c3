package tests

import (
	"fmt"
	"regexp"
	"strings"
	"testing"

	"loop.example/g01085/impl"
)

var instanceWords = regexp.MustCompile(`\Ainstance (10|[1-9])\n([0-5]( [0-9]){1,4}\n){0,24}\z`)

// isInstanceText tells by the definition whether a text is that of an instance.
func isInstanceText(text string) bool {
	if !instanceWords.MatchString(text) {
		return false
	}
	lines := strings.Split(text, "\n")
	if lines[0] == "instance 10" {
		return true
	}
	for _, line := range lines[1 : len(lines)-1] {
		if strings.ContainsAny(line[1:], "0123456789"[lines[0][9]-'0':]) {
			return false
		}
	}
	return true
}

func checkInstanceText(t *testing.T, text string) {
	t.Helper()
	x, code := impl.ReadInstance(text)
	want := int64(impl.ErrSyntax)
	if isInstanceText(text) {
		want = impl.OK
	}
	if code != want || code == impl.OK && impl.InstanceText(x) != text || code != impl.OK && (x.Vars != 0 || len(x.Cons) != 0) {
		t.Errorf("ReadInstance of %q: %v %d", text, x, code)
	}
}

// textOfInstance writes an instance down.
func textOfInstance(x impl.Instance) string {
	text := fmt.Sprintf("instance %d\n", x.Vars)
	for _, c := range x.Cons {
		text += strings.Trim(fmt.Sprint(append([]int64{c.Rel}, c.Scope...)), "[]") + "\n"
	}
	return text
}

func TestInstanceTexts(t *testing.T) {
	check := func(x impl.Instance) {
		text := textOfInstance(x)
		same(t, "isInstanceText", isInstanceText(text), true)
		wantCall(t, "InstanceText", []any{text}, impl.InstanceText, roomyInstance(x))
		wantCall(t, "ReadInstance", []any{x, 0}, impl.ReadInstance, text)
	}
	eachInstance(8, 1e9, func(_ impl.Template, x impl.Instance) { check(x) })
	for _, x := range goodInstances() {
		check(x)
	}
	// an instance that is valid for no template may have a text
	for _, short := range []string{"1 0:0 0:00", "2 5:1 5:01 5:010 5:1111", "10 5:9876" + repeated(" 0:0", 23), "1 4:0"} {
		check(instance(short))
	}
	wantCall(t, "InstanceText", []any{"instance 3\n0 0 1\n0 1 2\n1 0\n"}, impl.InstanceText, colours())
	wantCall(t, "InstanceText", []any{"instance 10\n"}, impl.InstanceText, instance("10"))
	wantCall(t, "ReadInstance", []any{"{10 [{3 [9 0 9 8]}]}", 0}, impl.ReadInstance, "instance 10\n3 9 0 9 8\n")
}

func TestInstancesWithoutText(t *testing.T) {
	list := []impl.Instance{{}, {Vars: 0}, {Vars: 11}, {Vars: -1}, {Vars: 11, Cons: []impl.Con{{Scope: []int64{10}}}}, {Vars: 10, Cons: []impl.Con{{Scope: []int64{10}}}}, {Vars: 1, Cons: []impl.Con{{}}}}
	for _, short := range []string{"1 6:0", "1 9:0", "1 0:", "1 0:00000", "1 0:1", "2 0:02", "9 0:9", "3 0:01 0:", "3 0:01 6:0", "3 0:01 0:3", "1" + repeated(" 0:0", 25), "3 0:0123"} {
		list = append(list, instance(short))
	}
	for _, number := range farAway {
		list = append(list, impl.Instance{Vars: number}, impl.Instance{Vars: number, Cons: []impl.Con{{Scope: []int64{0}}}})
		list = append(list, impl.Instance{Vars: 2, Cons: []impl.Con{{Scope: []int64{number}}}}, impl.Instance{Vars: 2, Cons: []impl.Con{{Scope: []int64{0, 1, number}}}})
	}
	for _, rel := range noRels {
		list = append(list, impl.Instance{Vars: 2, Cons: []impl.Con{{Rel: rel, Scope: []int64{0, 1}}}})
	}
	for _, x := range list {
		wantCall(t, "InstanceText", []any{""}, impl.InstanceText, x)
	}
}

func TestNearInstanceTexts(t *testing.T) {
	for i, text := range []string{"instance 1\n", "instance 10\n", "instance 3\n0 0 1\n0 1 2\n1 0\n", "instance 10\n5 9 8 7 6\n", "instance 2\n0 1\n3 0 1 0 1\n", "instance 1\n" + repeated("0 0\n", 24)} {
		checkInstanceText(t, text)
		for j, near := range nearTexts(text) {
			checkInstanceText(t, near)
			if i > 3 || j%3 > 0 {
				continue
			}
			for _, nearer := range nearTexts(near) {
				checkInstanceText(t, nearer)
			}
		}
	}
}

func TestTextsThatAreNoInstances(t *testing.T) {
	for _, text := range []string{
		"", " ", "\n", "\n\n", "instance", "instance ", "instance\n", "instance \n", "instance 1", "instance 1\n\n", "\ninstance 1\n", "instance 1\r\n", "instance\t1\n", "instance  1\n", " instance 1\n", "instance 1 \n", "instance 1\n ", "instance\n1\n", "instance 1 2\n", "instance 1 0 0\n", "Instance 1\n", "instances 1\n", "instanc 1\n", "instance1\n",
		// numbers that are none, or are written in another way
		"instance 0\n", "instance 11\n", "instance 01\n", "instance 010\n", "instance 00\n", "instance +1\n", "instance -1\n", "instance -0\n", "instance 1.\n", "instance 0x1\n", "instance 1_0\n", "instance 1e1\n", "instance x\n", "instance 100\n", "instance 9223372036854775807\n", "instance 9223372036854775808\n", "instance 18446744073709551617\n", "instance 99999999999999999999999\n",
		"instance 2\n0 0 1", "instance 2\n0 0 1\n\n", "instance 2\n\n0 0 1\n", "instance 2\n0  0 1\n", "instance 2\n 0 0 1\n", "instance 2\n0 0 1 \n", "instance 2\n0 0 1\n ", "instance 2\n0\t0 1\n", "instance 2\n0 0,1\n", "instance 2\n0 01\n", "instance 2\n0 00 1\n", "instance 2\n00 0 1\n", "instance 2\n+0 0 1\n", "instance 2\n-0 0 1\n", "instance 2\n0 +0 1\n", "instance 2\n0 -0 1\n", "instance 2\n0 0 -1\n", "instance 2\n-1 0 1\n", "instance 2\n6 0 1\n", "instance 2\n10 0 1\n", "instance 2\n0 0 2\n", "instance 2\n0 2\n", "instance 10\n0 10\n", "instance 9\n0 9\n", "instance 1\n0 1\n",
		"instance 2\n0\n", "instance 2\n0 \n", "instance 2\n0 0 0 0 0 0\n", "instance 2\n\n", "instance 2\nR0 0 1\n", "instance 2\nR0:01\n", "instance 2\n= 0 1\n", "instance 2\n0:0 1\n", "instance 2\n0 0 x\n", "instance 2\nx 0 1\n", "instance 2\n0 0 ٠\n", "instance 2\n0 0 \xff\n", "instance 2\n0 0 1\x00\n", "instance 2\n0 9223372036854775808\n", "instance 2\n0 18446744073709551616\n", "instance 2\n18446744073709551616 0\n",
		"instance 2\ninstance 2\n", "instance 2\n0 0 1\ninstance 2\n", "0 0 1\n", "0 0 1\ninstance 2\n", "instance 1\n" + repeated("0 0\n", 25), "instance 1\n" + repeated("0 0\n", 23) + "0 0", "template 2\n", "formula 1 1\n",
	} {
		same(t, fmt.Sprintf("isInstanceText %q", text), isInstanceText(text), false)
		wantCode(t, fmt.Sprintf("ReadInstance %q", text), impl.ErrSyntax, impl.ReadInstance, text)
	}
}

func TestLengthsOfInstanceTexts(t *testing.T) {
	for _, start := range []string{"", "instance ", "instance 1\n", "instance 1\n0 0\n", "instance 10\n0 9"} {
		for _, filler := range []string{" ", "\n", "0", "0 0\n", " 0", "\xff"} {
			text := start + strings.Repeat(filler, impl.MaxText+1)
			wantCode(t, "ReadInstance of MaxText bytes", impl.ErrSyntax, impl.ReadInstance, text[:impl.MaxText])
			wantCode(t, "ReadInstance of one byte more", impl.ErrRange, impl.ReadInstance, text[:impl.MaxText+1])
		}
	}
	// bytes are counted, not runes
	wantCode(t, "ReadInstance of two-byte runes", impl.ErrRange, impl.ReadInstance, strings.Repeat("é", impl.MaxText/2)+"x")
	wantCode(t, "ReadInstance of a million bytes", impl.ErrRange, impl.ReadInstance, strings.Repeat("instance 1", 100000))
}
