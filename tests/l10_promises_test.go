package tests

import (
	"fmt"
	"math/rand/v2"
	"slices"
	"strings"
	"testing"

	"loop.example/g01085/impl"
)

// isFound reports whether a search finds a solution of a job; otherwise it checks
// that it finds a refutation.
func isFound(t *testing.T, x impl.Template, y impl.Instance) bool {
	t.Helper()
	values, _, code := impl.SearchFor(x, y, impl.MaxSearch)
	if code == impl.OK {
		same(t, "what a search finds", failingBy(x, y, values), -1)
		return true
	}
	same(t, "SearchFor", code, impl.ErrNotFound)
	list, code := impl.RefuteInstance(x, y, impl.MaxSearch)
	same(t, "RefuteInstance", code, impl.OK)
	wantCall(t, "CheckRefutation", []any{len(list), 0}, impl.CheckRefutation, x, y, list)
	return false
}

// checkKnown checks that the answers of a hall that are known are right, and what
// a search finds, and returns how many there are.
func checkKnown(t *testing.T, h impl.House, answers []impl.Answer) int {
	t.Helper()
	known := 0
	for i, a := range answers {
		if !a.Known {
			same(t, "an answer that is not known", isZeroVerdict(a.Verdict), true)
			continue
		}
		known++
		isRight, code := impl.IsVerdict(h.Template, h.Jobs[i], a.Verdict)
		same(t, "IsVerdict", []any{isRight, code}, []any{true, 0})
		same(t, "by the definition", isVerdictBy(h.Template, h.Jobs[i], a.Verdict), true)
		same(t, "a solution of "+shortOf(h.Jobs[i]), a.Verdict.Kind == impl.VkSolution, isFound(t, h.Template, h.Jobs[i]))
	}
	return known
}

func isZeroVerdict(v impl.Verdict) bool { return impl.SameVerdict(v, impl.Verdict{}) }

// TestKnownAnswersAreRight looks behind each deed of many lists.
func TestKnownAnswersAreRight(t *testing.T) {
	source := rand.New(rand.NewPCG(5, 10))
	known, wrong, spoilt := 0, int64(0), 0
	check := func(h impl.House) {
		list := drawnDeeds(source, h, 40+source.IntN(60))
		verdicts, _ := impl.VerdictsOf(h)
		for _, count := range []int{len(list) / 3, len(list) / 2, len(list)} {
			hall, _, code := impl.HallAfter(h, list[:count])
			same(t, "HallAfter", code, impl.OK)
			known += checkKnown(t, h, hall.Answers)
			checkKnown(t, h, hall.Saved)
			wrong += hall.Wrong
			for i, a := range hall.Answers {
				if a.Known && !impl.SameVerdict(a.Verdict, verdicts[i]) {
					spoilt++
				}
			}
		}
	}
	eachHouse(106, 2, check)
	for range 30 {
		check(mixedHouse(1 + source.Int64N(3)))
		check(parityHouse(t))
		check(boundHouse(t))
	}
	if known < 500 || wrong < 150 || spoilt < 30 {
		t.Errorf("too few verdicts: %d %d %d", known, wrong, spoilt)
	}
}

// TestOnlySpoiltVerdicts spoils each verdict once ahead of its coming in: it is
// counted, or right by chance.
func TestOnlySpoiltVerdicts(t *testing.T) {
	right, wrong := 0, 0
	eachHouse(107, 2, func(h impl.House) {
		verdicts, _ := impl.VerdictsOf(h)
		for i, v := range verdicts {
			list := deeds(fmt.Sprint("give 0 ", i, ", deliver 0, work 0"))
			for count := range int64(4) {
				isRight := isVerdictBy(h.Template, h.Jobs[i], v)
				hall, _, _ := impl.HallAfter(h, append(list, deeds("deliver 0")...))
				if isRight {
					same(t, "answer", hall.Answers[i], impl.Answer{Known: true, Verdict: v})
					same(t, "wrong", hall.Wrong, 0)
					right += int(min(count, 1))
				} else {
					same(t, "answer", hall.Answers[i], impl.Answer{})
					same(t, "wrong", hall.Wrong, 1)
					wrong++
				}
				v = spoiltBy(v)
				list = append(list, deeds("spoil 0")...)
			}
		}
	})
	if right < 100 || wrong < 100 {
		t.Errorf("too few verdicts: %d %d", right, wrong)
	}
}

// finished returns the answers of a house behind drawn deeds and those by which
// they become known.
func finished(t *testing.T, source *rand.Rand, h impl.House) []impl.Answer {
	t.Helper()
	list := drawnDeeds(source, h, source.IntN(80))
	plan, code := impl.FinishDeeds(h, list)
	same(t, "FinishDeeds", code, impl.OK)
	return checkFinished(t, h, list, plan).Answers
}

func TestAllIsKnownInTheEnd(t *testing.T) {
	source := rand.New(rand.NewPCG(6, 10))
	kinds := map[int64]int{}
	check := func(h impl.House) {
		answers := finished(t, source, h)
		same(t, "known answers", checkKnown(t, h, answers), len(h.Jobs))
		for _, a := range answers {
			kinds[a.Verdict.Kind]++
		}
	}
	eachHouse(108, 2, check)
	for range 20 {
		check(mixedHouse(1 + source.Int64N(3)))
		check(parityHouse(t))
		check(boundHouse(t))
	}
	for kind := range int64(4) {
		if kinds[kind] < 30 {
			t.Errorf("too few answers: %v", kinds)
		}
	}
}

// TestScriptsSayWhatIsFound finishes what scripts have begun, and asks for all jobs.
func TestScriptsSayWhatIsFound(t *testing.T) {
	source := rand.New(rand.NewPCG(7, 10))
	eachHouse(109, 1, func(h impl.House) {
		list := drawnDeeds(source, h, source.IntN(80))
		plan, _ := impl.FinishDeeds(h, list)
		var lines []string
		for _, d := range slices.Concat(list, plan) {
			lines = append(lines, impl.DeedText(d))
		}
		for job := range h.Jobs {
			lines = append(lines, fmt.Sprint("job ", job))
		}
		said, code := impl.RunScript(h, strings.Join(lines, "\n"))
		same(t, "RunScript", code, impl.OK)
		answers := strings.Split(strings.TrimSuffix(said, "\n"), "\n")
		same(t, "number of answers", len(answers), len(lines))
		for job, answer := range answers[len(list)+len(plan):] {
			digits, isYes := strings.CutPrefix(answer, "yes ")
			same(t, "yes or no", isYes || answer == "no", true)
			same(t, "yes", isYes, isFound(t, h.Template, h.Jobs[job]))
			if isYes {
				var values []int64
				for _, digit := range digits {
					values = append(values, int64(digit-'0'))
				}
				isSolution, code := impl.IsSolution(h.Template, h.Jobs[job], values)
				same(t, "IsSolution", []any{isSolution, code}, []any{true, 0})
			}
		}
	})
}

// replacedHouse returns a house with the jobs of another one, in which gadgets
// replace the relations, false if one is too large.
func replacedHouse(h impl.House, u impl.Template, g impl.Gadgets) (impl.House, bool) {
	next := impl.House{Template: u, Clerks: h.Clerks}
	for _, x := range h.Jobs {
		y, _, code := impl.ApplyGadgets(h.Template, u, g, x)
		if code != impl.OK {
			return next, false
		}
		next.Jobs = append(next.Jobs, y)
	}
	return next, impl.ValidHouse(next)
}

// TestWhatFormulasDefineIsKept checks that a solver of a template is one of what
// formulas define in it, and that answers go together.
func TestWhatFormulasDefineIsKept(t *testing.T) {
	source := rand.New(rand.NewPCG(8, 10))
	kept, answered := map[int64]int{}, map[bool]int{}
	for _, u := range waysTemplates(110) {
		way, f, code := impl.SolverFor(u)
		if code != impl.OK {
			continue
		}
		g := impl.Gadgets{Formulas: someFormulas(source, u, 1+source.IntN(4))}
		x := madeBy(u, g)
		for i, r := range x.Rels {
			wantCall(t, "ValueOf", []any{r, 0}, impl.ValueOf, u, g.Formulas[i])
			wantCall(t, "Keeps", []any{true, 0}, impl.Keeps, x.Size, f, r)
		}
		wantCall(t, "KeepsAll", []any{-1, 0}, impl.KeepsAll, x, f)
		kept[way]++
		h := drawnHouse(source, x)
		next, ok := replacedHouse(h, u, g)
		if !ok || !isHouseBy(h) {
			continue
		}
		before, behind := finished(t, source, h), finished(t, source, next)
		for i, a := range before {
			isSolved := a.Verdict.Kind == impl.VkSolution
			same(t, "both answers on "+shortOf(h.Jobs[i]), behind[i].Verdict.Kind == impl.VkSolution, isSolved)
			answered[isSolved]++
			if isSolved {
				wantCode(t, "CarryForth", impl.OK, impl.CarryForth, x, u, g, h.Jobs[i], a.Verdict.Values)
				wantCode(t, "CarryBack", impl.OK, impl.CarryBack, x, u, g, h.Jobs[i], behind[i].Verdict.Values)
			}
		}
	}
	for way := int64(impl.SvConstant); way <= impl.SvEquations; way++ {
		if kept[way] < 10 {
			t.Errorf("too few templates: %v", kept)
		}
	}
	if answered[true] < 30 || answered[false] < 20 {
		t.Errorf("too few answers: %v", answered)
	}
}
