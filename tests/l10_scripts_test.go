package tests

import (
	"fmt"
	"math/rand/v2"
	"slices"
	"strconv"
	"strings"
	"testing"

	"loop.example/g01085/impl"
)

// answerBy returns what a script answers to a line, by the definition.
func (p *play) answerBy(line string) string {
	if isDeedText(line) {
		if code := p.do(deeds(line)[0]); code != impl.OK {
			return "error " + []string{"ok", "invalid", "range", "limit", "state"}[code]
		}
		return "ok"
	}
	if line == "wrong" {
		return strconv.FormatInt(p.hall.Wrong, 10)
	}
	for i, a := range p.hall.Answers {
		if line == fmt.Sprint("job ", i) {
			switch {
			case !a.Known:
				return "unknown"
			case a.Verdict.Kind != impl.VkSolution:
				return "no"
			}
			return "yes " + shortVerdict(a.Verdict)
		}
	}
	return "what"
}

// scriptBy returns what RunScript has to return, by the definition.
func scriptBy(h impl.House, text string) []any {
	var lines []string
	if text != "" {
		lines = strings.Split(text, "\n")
		if last := len(lines) - 1; lines[last] == "" {
			lines = lines[:last]
		}
	}
	if len(text) > 10000 || len(lines) > 120 {
		return []any{"", impl.ErrRange}
	}
	p, said := playOf(h), ""
	for _, line := range lines {
		said += p.answerBy(line) + "\n"
	}
	return []any{said, 0}
}

func checkScript(t *testing.T, h impl.House, text string) string {
	t.Helper()
	want := scriptBy(h, text)
	wantCall(t, fmt.Sprintf("RunScript %q", text), want, impl.RunScript, roomyHouse(h), text)
	return want[0].(string)
}

// wantScript checks what is answered to lines that are told with commas, ahead of
// each answer the same.
func wantScript(t *testing.T, h impl.House, short, want string) {
	t.Helper()
	text := strings.ReplaceAll(short, ", ", "\n")
	said := strings.ReplaceAll(want, ", ", "\n") + "\n"
	for _, end := range []string{"", "\n"} {
		wantCall(t, fmt.Sprintf("RunScript %q", text+end), []any{said, 0}, impl.RunScript, roomyHouse(h), text+end)
		checkScript(t, h, text+end)
	}
}

func TestScripts(t *testing.T) {
	h := mixedHouse(2)
	wantScript(t, h, "save", "ok")
	wantScript(t, h, "job 0, give 0 0, deliver 0, work 0, job 0, deliver 0, job 0, job 1", "unknown, ok, ok, ok, unknown, ok, yes 01, unknown")
	// all kinds of deeds
	wantScript(t, h, "give 1 2, copy 0, drop 0, work 1, spoil 0, deliver 0, save, crash", "ok, ok, ok, ok, ok, ok, ok, ok")
	// "no" for arcs, pairs and numbers, and "yes" with all values
	wantScript(t, h, "give 1 1, deliver 0, work 1, deliver 0, job 1, give 1 2, deliver 0, work 1, deliver 0, job 2, job 1, job 3", "ok, ok, ok, ok, no, ok, ok, ok, ok, no, no, unknown")
	wantScript(t, parityHouse(t), "give 0 0, give 1 1, deliver 0, deliver 0, work 0, work 1, deliver 1, deliver 0, job 0, job 1, job 2", "ok, ok, ok, ok, ok, ok, ok, ok, no, yes 010, unknown")
	wantScript(t, boundHouse(t), "give 2 0, give 1 2, copy 0, copy 1, work 2, work 1, copy 2, copy 3, job 0, job 2", "ok, ok, ok, ok, ok, ok, ok, ok, yes 320, yes 21")
	wantScript(t, house(order(), 1, "10 0:09", "1"), "give 0 0, copy 0, work 0, copy 1, job 0, give 0 1, copy 2, work 0, copy 3, job 1", "ok, ok, ok, ok, yes 0000000000, ok, ok, ok, ok, yes 0")
	// verdicts that are wrong, and one that is right by chance
	wantScript(t, h, "wrong, give 0 0, deliver 0, work 0, spoil 0, copy 0, wrong, job 0, copy 0, wrong, spoil 0, deliver 0, job 0, wrong", "0, ok, ok, ok, ok, ok, 1, unknown, ok, 2, ok, ok, yes 01, 2")
	wantScript(t, h, "give 0 3, deliver 0, work 0, spoil 0, deliver 0, job 3, wrong", "ok, ok, ok, ok, ok, yes 1, 0")
	wantScript(t, h, "give 0 0, copy 0, work 0, spoil 1"+repeated(", copy 1", 12)+", wrong, crash, wrong", "ok, ok, ok, ok"+repeated(", ok", 12)+", 12, ok, 12")
	// crashes
	wantScript(t, h, "give 0 0, deliver 0, work 0, copy 0, save, job 0, give 1 1, deliver 1, work 1, deliver 1, job 1, crash, job 0, job 1, crash, job 0, deliver 0, job 0", "ok, ok, ok, ok, ok, yes 01, ok, ok, ok, ok, no, ok, yes 01, unknown, ok, yes 01, ok, yes 01")
}

func TestErrorsInScripts(t *testing.T) {
	h := mixedHouse(2)
	wantScript(t, h, "deliver 0, copy 0, drop 999, spoil 0, give 2 0, give 0 4, work 2", "error range, error range, error range, error range, error range, error range, error range")
	wantScript(t, h, "work 0, work 1, give 0 0, spoil 0, spoil 1", "error state, error state, ok, error state, error range")
	wantScript(t, h, "give 0 0, deliver 0, work 0, deliver 0, give 0 0, give 1 0, give 1 1", "ok, ok, ok, ok, error state, error state, ok")
	wantScript(t, h, "give 0 1, copy 0"+repeated(", give 0 1", 8)+", work 0, give 1 2, drop 0, work 0", "ok, ok"+repeated(", ok", 7)+", error limit, error limit, error limit, ok, ok")
}

func TestOtherLinesInScripts(t *testing.T) {
	h := mixedHouse(2)
	none := append(textsWithoutDeed(), "", "what", "hello", "ok", "error", "unknown", "Wrong", "wrong ", " wrong", "wrong 0", "wrongs", "wron", "WRONG", "wrong\r")
	// questions for jobs that there are not, and what is nearly a question
	none = append(none, "job", "job ", "job 4", "job 5", "job 10", "job 999", "job 1000", "job 9223372036854775807", "job 9223372036854775808", "job 18446744073709551616", "job -1", "job -0", "job +0", "job 00", "job 01", "job 000", "job 0 ", " job 0", "job  0", "job 0 0", "job 0 1", "job\t0", "job 0\r", "job x", "job 0x0", "job 0.", "job ٠", "Job 0", "JOB 0", "jobs 0", "job0", "jo 0", "jobjob 0", "job job 0", "job 0\x00", "job \xff")
	for _, line := range none {
		wantCall(t, fmt.Sprintf("RunScript of %q", line), []any{"what\nunknown\n", 0}, impl.RunScript, h, line+"\njob 0")
		checkScript(t, h, "give 0 0\n"+line+"\ndeliver 0\n"+line+"\n"+line)
	}
	// fewer jobs: no question for the others
	for jobs := 1; jobs <= 4; jobs++ {
		said := strings.Repeat("unknown\n", jobs) + strings.Repeat("what\n", 5-jobs)
		wantCall(t, "RunScript", []any{said, 0}, impl.RunScript, house(swap(), 1, slices.Repeat([]string{"1"}, jobs)...), "job 0\njob 1\njob 2\njob 3\njob 4\n")
	}
}

func TestNearScripts(t *testing.T) {
	h := exampleHouse()
	for _, text := range []string{"give 0 0\nwork 0\n", "job 0\nwrong", "save\ncrash\njob 1\n"} {
		for _, near := range nearTexts(text) {
			checkScript(t, h, near)
		}
	}
}

func TestEndsOfScripts(t *testing.T) {
	for text, want := range map[string]string{
		"": "", "\n": "what\n", "\n\n": "what\nwhat\n", "save": "ok\n", "save\n": "ok\n", "save\n\n": "ok\nwhat\n", "\nsave": "what\nok\n", "save\n\nsave": "ok\nwhat\nok\n", "save\n\n\n": "ok\nwhat\nwhat\n", " ": "what\n", "\r\n": "what\n", "save\r\n": "what\n", "save;save": "what\n",
	} {
		wantCall(t, fmt.Sprintf("RunScript %q", text), []any{want, 0}, impl.RunScript, exampleHouse(), text)
		checkScript(t, exampleHouse(), text)
	}
}

func TestLimitsOfScripts(t *testing.T) {
	h := exampleHouse()
	// lines: with and without the last newline, and empty ones
	for _, line := range []string{"save", "job 0", "wrong", "", "x"} {
		full := strings.Repeat(line+"\n", 120)
		checkScript(t, h, full)
		wantCode(t, "RunScript of 120 lines", impl.OK, impl.RunScript, h, full)
		wantCode(t, "RunScript of 121 lines", impl.ErrRange, impl.RunScript, h, full+"\n")
		wantCode(t, "RunScript of 121 lines", impl.ErrRange, impl.RunScript, h, full+"x")
		if line != "" {
			wantCode(t, "RunScript of 120 lines", impl.OK, impl.RunScript, h, strings.TrimSuffix(full, "\n"))
			wantCode(t, "RunScript of 121 lines", impl.ErrRange, impl.RunScript, h, full+line)
		}
	}
	// bytes: of one line and of several ones
	for _, line := range []string{"x", "0123456789\n", "save ", "é", strings.Repeat("y", 99) + "\n"} {
		text := strings.Repeat(line, 10001/len(line)+1)
		if strings.HasSuffix(line, "\n") {
			text = strings.Repeat(line, 100)
			text = strings.Repeat("z", 10001-len(text)) + text
		}
		wantCode(t, "RunScript of 10000 bytes", impl.OK, impl.RunScript, h, text[:10000])
		wantCode(t, "RunScript of 10001 bytes", impl.ErrRange, impl.RunScript, h, text[:10001])
		checkScript(t, h, text[:10000])
	}
	for _, text := range []string{strings.Repeat("x", 1000000), strings.Repeat("\n", 1000000), strings.Repeat("save\n", 2000)} {
		wantCode(t, "RunScript of a long text", impl.ErrRange, impl.RunScript, h, text)
	}
}

func TestScriptsByDefinition(t *testing.T) {
	source := rand.New(rand.NewPCG(4, 10))
	said := map[string]int{}
	check := func(h impl.House) {
		p := playOf(h)
		var lines []string
		for range source.IntN(110) {
			switch source.IntN(8) {
			case 0:
				lines = append(lines, "wrong")
			case 1, 2:
				lines = append(lines, fmt.Sprint("job ", source.IntN(5)))
			default:
				d := drawnDeed(source, p)
				lines = append(lines, textOfDeed(d))
				p.do(d)
			}
		}
		text := strings.Join(lines, "\n")
		for _, answer := range strings.Split(checkScript(t, h, text), "\n") {
			word, _, isLonger := strings.Cut(answer, " ")
			if word == "error" || !isLonger {
				word = answer
			}
			said[word]++
		}
	}
	eachHouse(105, 1, check)
	for range 15 {
		check(mixedHouse(1 + source.Int64N(3)))
		check(parityHouse(t))
		check(boundHouse(t))
	}
	for _, word := range []string{"ok", "error range", "error state", "error limit", "unknown", "no", "yes", "what", "0", "1", "2"} {
		if said[word] < 15 {
			t.Errorf("too few answers: %s: %v", word, said)
		}
	}
}
