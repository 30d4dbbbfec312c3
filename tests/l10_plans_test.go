package tests

import (
	"fmt"
	"math/rand/v2"
	"slices"
	"strings"
	"testing"

	"loop.example/g01085/impl"
)

// finishBy returns what FinishDeeds has to return, by the definition.
func finishBy(h impl.House, list []impl.Deed) []any {
	p := playedBy(h, list)
	var plan []impl.Deed
	for range p.hall.Wire {
		plan = append(plan, impl.Deed{Kind: impl.DdDrop})
	}
	for i, a := range p.hall.Answers {
		if job := int64(i); !a.Known {
			clerk := job % h.Clerks
			plan = append(plan, impl.Deed{Kind: impl.DdGive, A: clerk, B: job}, impl.Deed{Kind: impl.DdDeliver}, impl.Deed{Kind: impl.DdWork, A: clerk}, impl.Deed{Kind: impl.DdDeliver})
		}
	}
	plan = append(plan, impl.Deed{Kind: impl.DdSave})
	if len(list)+len(plan) > 200 {
		return []any{"[]", impl.ErrLimit}
	}
	return []any{plan, 0}
}

// checkFinished checks that all answers are known and saved in a hall behind the
// planned deeds, that they are right, and that none of these deeds is left out.
func checkFinished(t *testing.T, h impl.House, list, plan []impl.Deed) impl.Hall {
	t.Helper()
	before, doneBefore, _ := impl.HallAfter(h, list)
	hall, done, code := impl.HallAfter(h, slices.Concat(list, plan))
	same(t, "deeds that are done", []any{done, code}, []any{doneBefore + int64(len(plan)), 0})
	same(t, "saved", hall.Saved, hall.Answers)
	same(t, "the wire, and wrong verdicts", []any{len(hall.Wire), hall.Wrong}, []any{0, before.Wrong})
	for i, a := range hall.Answers {
		same(t, "a right answer", a.Known && isVerdictBy(h.Template, h.Jobs[i], a.Verdict), true)
		if before.Answers[i].Known {
			same(t, "an answer that was known", a, before.Answers[i])
		} else {
			list, _ := impl.VerdictsOf(h)
			same(t, "an answer that was not known", a.Verdict, list[i])
		}
	}
	return hall
}

// checkFinish compares the planned deeds with the definition, and does them.
func checkFinish(t *testing.T, h impl.House, list []impl.Deed) {
	t.Helper()
	wantCall(t, "FinishDeeds", finishBy(h, list), impl.FinishDeeds, roomyHouse(h), roomyDeeds(list))
	if plan, code := impl.FinishDeeds(h, list); code == impl.OK {
		checkFinished(t, h, list, plan)
	}
}

// wantFinish checks which deeds are planned behind others.
func wantFinish(t *testing.T, h impl.House, short, want string) {
	t.Helper()
	checkFinish(t, h, deeds(short))
	plan, _ := impl.FinishDeeds(h, deeds(short))
	var texts []string
	for _, d := range plan {
		texts = append(texts, textOfDeed(d))
	}
	same(t, "planned behind "+short, strings.Join(texts, ", "), want)
}

func TestRefusedDeeds(t *testing.T) {
	h := mixedHouse(2)
	for _, c := range []struct {
		short string
		want  []any
	}{
		// all are done
		{"", []any{0, 0, impl.ErrNotFound}}, {"save", []any{0, 0, impl.ErrNotFound}}, {"give 0 0, deliver 0, work 0, spoil 0, copy 0, drop 0, save, crash", []any{0, 0, impl.ErrNotFound}},
		// the first one, the last one, and the first one of several
		{"work 0", []any{0, impl.ErrState, 0}}, {"give 2 0", []any{0, impl.ErrRange, 0}}, {"save, save, crash, drop 0", []any{3, impl.ErrRange, 0}},
		{"give 0 0, spoil 0, work 5, drop 1", []any{1, impl.ErrState, 0}}, {"give 0 0, work 5, spoil 0, drop 1", []any{1, impl.ErrRange, 0}}, {"save, deliver 0, deliver 0, work 0", []any{1, impl.ErrRange, 0}},
		{repeated("give 1 2, ", 8) + "give 1 2, work 0, drop 8", []any{8, impl.ErrLimit, 0}}, {"give 0 1" + repeated(", copy 0", 3) + repeated(", give 0 1", 8) + ", work 0", []any{11, impl.ErrLimit, 0}},
		// what is left out changes nothing
		{"give 0 0, work 0, deliver 0, work 0, work 0", []any{1, impl.ErrState, 0}}, {"give 0 0, deliver 0, work 0, deliver 0, give 0 0, save", []any{4, impl.ErrState, 0}},
	} {
		wantCall(t, "RefusedDeed", c.want, impl.RefusedDeed, roomyHouse(h), roomyDeeds(deeds(c.short)))
		checkHall(t, h, deeds(c.short))
	}
}

func TestAnswersOfJobs(t *testing.T) {
	h := mixedHouse(3)
	all := "give 0 0, deliver 0, work 0, deliver 0, give 2 1, deliver 0, work 2, deliver 0, give 1 2, deliver 0, work 1, deliver 0"
	for job, want := range []string{"{true {0 [0 1] [] [] []}}", "{true {2 [] [] [{0 1 2} {0 2 1} {1 2 0}] []}}", "{true {1 [] [{0 0 0} {0 1 0}] [] []}}", "{false {0 [] [] [] []}}"} {
		wantCall(t, "AnswerAfter", []any{want, 0}, impl.AnswerAfter, h, deeds(all), job)
		wantCall(t, "AnswerAfter", []any{"{false {0 [] [] [] []}}", 0}, impl.AnswerAfter, h, deeds(all+", crash"), job)
		wantCall(t, "AnswerAfter", []any{"{false {0 [] [] [] []}}", 0}, impl.AnswerAfter, h, nil, job)
		wantCall(t, "AnswerAfter", []any{want, 0}, impl.AnswerAfter, h, deeds(all+", save, crash"), job)
	}
	wantCall(t, "a spoilt verdict that is right", []any{"{true {0 [1] [] [] []}}", 0}, impl.AnswerAfter, h, deeds("give 0 3, deliver 0, work 0, spoil 0, deliver 0"), 3)
	wantCall(t, "a spoilt verdict that is wrong", []any{"{false {0 [] [] [] []}}", 0}, impl.AnswerAfter, h, deeds("give 0 0, deliver 0, work 0, spoil 0, deliver 0"), 0)
	for _, job := range append([]int64{4, 5}, farAway...) {
		wantCode(t, "AnswerAfter", impl.ErrRange, impl.AnswerAfter, h, deeds(all), job)
		wantCode(t, "AnswerAfter", impl.ErrRange, impl.AnswerAfter, h, nil, job)
	}
	for _, job := range []int64{-1, 1, 2} {
		wantCode(t, "AnswerAfter", impl.ErrRange, impl.AnswerAfter, house(swap(), 3, "1"), nil, job)
	}
	parts := deeds("give 1 0, deliver 0, work 1, deliver 0")
	wantCall(t, "AnswerAfter", []any{"{true {3 [] [] [] [1 1]}}", 0}, impl.AnswerAfter, parityHouse(t), parts, 0)
}

func TestPlans(t *testing.T) {
	h := mixedHouse(2)
	all := "give 0 0, deliver 0, work 0, deliver 0, give 1 1, deliver 0, work 1, deliver 0, give 0 2, deliver 0, work 0, deliver 0, give 1 3, deliver 0, work 1, deliver 0"
	wantFinish(t, h, "", all+", save")
	wantFinish(t, exampleHouse(), "", "give 0 0, deliver 0, work 0, deliver 0, give 0 1, deliver 0, work 0, deliver 0, save")
	// each job modulo Clerks
	wantFinish(t, mixedHouse(3), "", "give 0 0, deliver 0, work 0, deliver 0, give 1 1, deliver 0, work 1, deliver 0, give 2 2, deliver 0, work 2, deliver 0, give 0 3, deliver 0, work 0, deliver 0, save")
	wantFinish(t, mixedHouse(1), "", strings.NewReplacer("give 1", "give 0", "work 1", "work 0").Replace(all)+", save")
	wantFinish(t, house(swap(), 3, "2 0:01"), "", "give 0 0, deliver 0, work 0, deliver 0, save")
	// packets on the wire, of both kinds, up to MaxWire
	wantFinish(t, h, "give 0 0, give 1 0, deliver 0, work 0", "drop 0, drop 0, "+all+", save")
	wantFinish(t, h, strings.TrimPrefix(repeated(", give 1 2", 8), ", "), repeated("drop 0, ", 8)+all+", save")
	// benches that are not empty: their jobs are lost
	wantFinish(t, h, "give 0 3, give 1 2, deliver 0, deliver 0", all+", save")
	// some answers that are known, saved or not, and lost
	first := "give 0 0, deliver 0, work 0, deliver 0"
	wantFinish(t, h, first, strings.TrimPrefix(all, first+", ")+", save")
	wantFinish(t, h, first+", crash", all+", save")
	wantFinish(t, h, first+", save, crash", strings.TrimPrefix(all, first+", ")+", save")
	wantFinish(t, h, first+", give 1 3, deliver 0, work 1, spoil 0, copy 0, spoil 0", "drop 0, give 1 1, deliver 0, work 1, deliver 0, give 0 2, deliver 0, work 0, deliver 0, save")
	wantFinish(t, h, "give 1 1, deliver 0, work 1, deliver 0, give 1 2, deliver 0, work 1, spoil 0, copy 0", "drop 0, give 0 0, deliver 0, work 0, deliver 0, give 0 2, deliver 0, work 0, deliver 0, give 1 3, deliver 0, work 1, deliver 0, save")
	// all answers are known
	wantFinish(t, h, all, "save")
	wantFinish(t, h, all+", save", "save")
	wantFinish(t, house(swap(), 1, "1"), "give 0 0, copy 0, work 0, copy 1", "drop 0, drop 0, save")
}

func TestPlansUpToMaxDeeds(t *testing.T) {
	h := exampleHouse() // nine deeds from the beginning
	for _, short := range []string{"save", "crash", "drop 0", "work 9"} {
		list := slices.Repeat(deeds(short), 201)
		checkFinish(t, h, list[:191])
		plan, code := impl.FinishDeeds(h, list[:191])
		same(t, "exactly MaxDeeds", []any{len(plan), code}, []any{9, 0})
		wantCode(t, "FinishDeeds", impl.ErrLimit, impl.FinishDeeds, h, list[:192])
		wantCode(t, "FinishDeeds", impl.ErrLimit, impl.FinishDeeds, h, list[:200])
		wantCode(t, "FinishDeeds", impl.ErrRange, impl.FinishDeeds, h, list)
	}
	// all known: one deed more, and a packet on the wire makes it two
	saves := slices.Repeat(deeds("save"), 200)
	known := append(deeds("give 0 0, deliver 0, work 0, deliver 0, give 0 1, deliver 0, work 0, deliver 0"), saves...)
	checkFinish(t, h, known[:199])
	wantCall(t, "FinishDeeds", []any{deeds("save"), 0}, impl.FinishDeeds, h, known[:199])
	wantCode(t, "FinishDeeds", impl.ErrLimit, impl.FinishDeeds, h, known[:200])
	wired := append(deeds("give 0 0, deliver 0, work 0, deliver 0, give 0 1, copy 0, work 0, copy 1, drop 1"), saves...)
	checkFinish(t, h, wired[:198])
	wantCall(t, "FinishDeeds", []any{deeds("drop 0, save"), 0}, impl.FinishDeeds, h, wired[:198])
	wantCode(t, "FinishDeeds", impl.ErrLimit, impl.FinishDeeds, h, wired[:199])
}

func TestPlansByDefinition(t *testing.T) {
	source := rand.New(rand.NewPCG(3, 10))
	codes, wired, known := map[any]int{}, 0, map[int]int{}
	check := func(h impl.House) {
		list := drawnDeeds(source, h, source.IntN(40))
		if source.IntN(5) == 0 {
			list = drawnDeeds(source, h, 185+source.IntN(16))
		}
		checkFinish(t, h, list)
		p := playedBy(h, list)
		codes[finishBy(h, list)[1]]++
		if len(p.hall.Wire) > 0 {
			wired++
		}
		known[strings.Count(shortAnswers(p.hall.Answers), "?")]++
	}
	eachHouse(104, 1, check)
	for range 40 {
		check(mixedHouse(1 + source.Int64N(3)))
		check(parityHouse(t))
		check(boundHouse(t))
	}
	if codes[impl.OK] < 100 || codes[impl.ErrLimit] < 10 || wired < 60 || known[0] < 10 || known[1] < 20 || known[2] < 20 || known[3] < 20 {
		t.Error(fmt.Sprint("too few plans: ", codes, wired, known))
	}
}
