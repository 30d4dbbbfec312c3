package tests

import (
	"fmt"
	"math/rand/v2"
	"slices"
	"strings"
	"testing"

	"loop.example/g01085/impl"
)

// play is a hall in which deeds are done, by the definition.
type play struct {
	house    impl.House
	verdicts []impl.Verdict
	hall     impl.Hall
	codes    []int64 // of the deeds, those that are left out among them
}

// playOf returns a hall of a valid house at the beginning.
func playOf(h impl.House) *play {
	p := play{house: h}
	p.verdicts, _ = verdictsBy(h)
	p.hall.Answers = make([]impl.Answer, len(h.Jobs))
	p.hall.Saved = make([]impl.Answer, len(h.Jobs))
	for range h.Clerks {
		p.hall.Benches = append(p.hall.Benches, -1)
	}
	return &p
}

// playedBy returns the hall behind deeds.
func playedBy(h impl.House, list []impl.Deed) *play {
	p := playOf(h)
	for _, d := range list {
		p.do(d)
	}
	return p
}

// errorOf returns the error of a deed, by the table.
func (p *play) errorOf(d impl.Deed) int64 {
	noClerk, noPacket, full := d.A >= p.house.Clerks, d.A >= int64(len(p.hall.Wire)), len(p.hall.Wire) >= 8
	switch d.Kind {
	case impl.DdGive:
		if noClerk || d.B >= int64(len(p.house.Jobs)) {
			return impl.ErrRange
		}
		if p.hall.Answers[d.B].Known {
			return impl.ErrState
		}
		if full {
			return impl.ErrLimit
		}
	case impl.DdWork:
		if noClerk {
			return impl.ErrRange
		}
		if p.hall.Benches[d.A] < 0 {
			return impl.ErrState
		}
		if full {
			return impl.ErrLimit
		}
	case impl.DdDeliver, impl.DdCopy, impl.DdDrop:
		if noPacket {
			return impl.ErrRange
		}
	case impl.DdSpoil:
		if noPacket {
			return impl.ErrRange
		}
		if !p.hall.Wire[d.A].Back {
			return impl.ErrState
		}
	}
	return impl.OK
}

// comesIn has a packet come in.
func (p *play) comesIn(c impl.Packet) {
	switch {
	case !c.Back:
		p.hall.Benches[c.Clerk] = c.Job
	case !isVerdictBy(p.house.Template, p.house.Jobs[c.Job], c.Verdict):
		p.hall.Wrong++
	case !p.hall.Answers[c.Job].Known:
		p.hall.Answers[c.Job] = impl.Answer{Known: true, Verdict: c.Verdict}
	}
}

// do does a deed, and returns its error.
func (p *play) do(d impl.Deed) int64 {
	code := p.errorOf(d)
	p.codes = append(p.codes, code)
	if code != impl.OK {
		return code
	}
	wire := p.hall.Wire
	switch d.Kind {
	case impl.DdGive:
		p.hall.Wire = append(wire, impl.Packet{Clerk: d.A, Job: d.B})
	case impl.DdWork:
		job := p.hall.Benches[d.A]
		p.hall.Wire = append(wire, impl.Packet{Back: true, Clerk: d.A, Job: job, Verdict: p.verdicts[job]})
		p.hall.Benches[d.A] = -1
	case impl.DdDeliver:
		p.comesIn(wire[d.A])
		p.hall.Wire = append(slices.Clone(wire[:d.A]), wire[d.A+1:]...)
	case impl.DdCopy:
		p.comesIn(wire[d.A])
	case impl.DdDrop:
		p.hall.Wire = append(slices.Clone(wire[:d.A]), wire[d.A+1:]...)
	case impl.DdSpoil:
		wire[d.A].Verdict = spoiltBy(wire[d.A].Verdict)
	case impl.DdSave:
		p.hall.Saved = slices.Clone(p.hall.Answers)
	case impl.DdCrash:
		p.hall.Answers = slices.Clone(p.hall.Saved)
	}
	return impl.OK
}

// done returns how many deeds have been done.
func (p *play) done() int {
	return len(p.codes) - len(slices.DeleteFunc(slices.Clone(p.codes), func(code int64) bool { return code == impl.OK }))
}

// refused returns what RefusedDeed has to return.
func (p *play) refused() []any {
	for i, code := range p.codes {
		if code != impl.OK {
			return []any{i, code, 0}
		}
	}
	return []any{0, 0, impl.ErrNotFound}
}

// checkHall compares all that is said of the hall behind deeds with the
// definition, and returns it.
func checkHall(t *testing.T, h impl.House, list []impl.Deed) *play {
	t.Helper()
	p := playedBy(h, list)
	wantCall(t, "HallAfter", []any{p.hall, p.done(), 0}, impl.HallAfter, roomyHouse(h), roomyDeeds(list))
	wantCall(t, "RefusedDeed", p.refused(), impl.RefusedDeed, roomyHouse(h), roomyDeeds(list))
	for job, a := range p.hall.Answers {
		wantCall(t, "AnswerAfter", []any{a, 0}, impl.AnswerAfter, roomyHouse(h), roomyDeeds(list), job)
	}
	for _, job := range append([]int64{int64(len(h.Jobs)), int64(len(h.Jobs)) + 1}, farAway...) {
		wantCode(t, "AnswerAfter", impl.ErrRange, impl.AnswerAfter, h, list, job)
	}
	return p
}

// shortVerdict writes a verdict down: its values, or a letter and how many steps
// or numbers it has.
func shortVerdict(v impl.Verdict) string {
	if v.Kind == impl.VkSolution {
		return strings.Trim(strings.ReplaceAll(fmt.Sprint(v.Values), " ", ""), "[]")
	}
	return fmt.Sprint([]string{"", "a", "p", "n"}[v.Kind], len(v.Arcs)+len(v.Pairs)+len(v.Numbers))
}

// shortAnswers writes answers down, "?" for those that are not known.
func shortAnswers(list []impl.Answer) string {
	var words []string
	for _, a := range list {
		if a.Known {
			words = append(words, shortVerdict(a.Verdict))
		} else {
			words = append(words, "?")
		}
	}
	return strings.Join(words, " ")
}

// shortHall writes a hall down: answers, those that are saved, benches, the wire
// with ">" and "<" ahead of clerk and job, and the number of wrong verdicts.
func shortHall(hall impl.Hall) string {
	var benches, wire []string
	for _, job := range hall.Benches {
		benches = append(benches, strings.Replace(fmt.Sprint(job), "-1", "-", 1))
	}
	for _, p := range hall.Wire {
		if p.Back {
			wire = append(wire, fmt.Sprintf("<%d%d:%s", p.Clerk, p.Job, shortVerdict(p.Verdict)))
		} else {
			wire = append(wire, fmt.Sprintf(">%d%d", p.Clerk, p.Job))
		}
	}
	return fmt.Sprintf("%s / %s / %s / %s / %d", shortAnswers(hall.Answers), shortAnswers(hall.Saved), strings.Join(benches, " "), strings.Join(wire, " "), hall.Wrong)
}

// wantHall checks which hall there is behind deeds, and the codes of those that
// are left out.
func wantHall(t *testing.T, h impl.House, short, want string, codes ...int64) {
	t.Helper()
	p := checkHall(t, h, deeds(short))
	hall, done, _ := impl.HallAfter(h, deeds(short))
	left := slices.DeleteFunc(slices.Clone(p.codes), func(code int64) bool { return code == impl.OK })
	same(t, "hall behind "+short, shortHall(hall), want)
	same(t, "errors of "+short, []any{done, left}, []any{len(deeds(short)) - len(codes), codes})
}

func TestHallsAtTheBeginning(t *testing.T) {
	wantHall(t, exampleHouse(), "", "? ? / ? ? / - /  / 0")
	wantHall(t, mixedHouse(3), "", "? ? ? ? / ? ? ? ? / - - - /  / 0")
	wantCall(t, "HallAfter", []any{"{[{false {0 [] [] [] []}} {false {0 [] [] [] []}}] [{false {0 [] [] [] []}} {false {0 [] [] [] []}}] [-1] [] 0}", 0, 0}, impl.HallAfter, exampleHouse(), []impl.Deed(nil))
}

func TestGiving(t *testing.T) {
	h := mixedHouse(2)
	wantHall(t, h, "give 0 0", "? ? ? ? / ? ? ? ? / - - / >00 / 0")
	wantHall(t, h, "give 1 3, give 0 3, give 1 3", "? ? ? ? / ? ? ? ? / - - / >13 >03 >13 / 0")
	// fields that a packet does not use
	wantCall(t, "HallAfter", []any{"{[{false {0 [] [] [] []}} {false {0 [] [] [] []}}] [{false {0 [] [] [] []}} {false {0 [] [] [] []}}] [-1] [{false 0 1 {0 [] [] [] []}}] 0}", 1, 0}, impl.HallAfter, exampleHouse(), deeds("give 0 1"))
	// no such clerk, no such job, and both
	wantHall(t, h, "give 2 0, give 0 4, give 999 999, give 1 3", "? ? ? ? / ? ? ? ? / - - / >13 / 0", impl.ErrRange, impl.ErrRange, impl.ErrRange)
	// a job whose answer is known, also if there is no such clerk, and if the wire is full
	known := "give 0 0, deliver 0, work 0, deliver 0"
	wantHall(t, h, known+", give 0 0, give 1 0, give 2 0, give 1 1", "01 ? ? ? / ? ? ? ? / - - / >11 / 0", impl.ErrState, impl.ErrState, impl.ErrRange)
	full := repeated(", give 1 1", 8)
	wantHall(t, h, known+full, "01 ? ? ? / ? ? ? ? / - - / "+strings.TrimSpace(repeated(">11 ", 8))+" / 0")
	wantHall(t, h, known+full+", give 1 1, give 1 0, give 2 0, give 0 4", "01 ? ? ? / ? ? ? ? / - - / "+strings.TrimSpace(repeated(">11 ", 8))+" / 0", impl.ErrLimit, impl.ErrState, impl.ErrRange, impl.ErrRange)
	// behind a crash the answer is not known any more
	wantHall(t, h, known+", crash, give 0 0", "? ? ? ? / ? ? ? ? / - - / >00 / 0")
}

func TestWorking(t *testing.T) {
	h := mixedHouse(2)
	wantHall(t, h, "give 0 0, deliver 0", "? ? ? ? / ? ? ? ? / 0 - /  / 0")
	wantHall(t, h, "give 0 0, deliver 0, work 0", "? ? ? ? / ? ? ? ? / - - / <00:01 / 0")
	wantHall(t, h, "give 1 1, deliver 0, work 1, give 1 2, give 0 3", "? ? ? ? / ? ? ? ? / - - / <11:p3 >12 >03 / 0")
	// the clerk that has sent it
	wantCall(t, "HallAfter", []any{"{[{false {0 [] [] [] []}}] [{false {0 [] [] [] []}}] [-1 -1 -1] [{true 2 0 {0 [0 1] [] [] []}}] 0}", 3, 0}, impl.HallAfter, house(swap(), 3, "2 0:01"), deeds("give 2 0, deliver 0, work 2"))
	// no such clerk; a bench that is empty at the beginning, and behind the work
	wantHall(t, h, "work 2, work 999, work 0, give 0 0, work 0, deliver 0, work 1, work 0, work 0", "? ? ? ? / ? ? ? ? / - - / <00:01 / 0", impl.ErrRange, impl.ErrRange, impl.ErrState, impl.ErrState, impl.ErrState, impl.ErrState)
	// a wire that is full: the job stays on the bench
	full := "give 0 2, deliver 0" + repeated(", give 1 1", 8)
	wires := strings.TrimSpace(repeated(">11 ", 8))
	wantHall(t, h, full+", work 0, work 1, work 2", "? ? ? ? / ? ? ? ? / 2 - / "+wires+" / 0", impl.ErrLimit, impl.ErrState, impl.ErrRange)
	wantHall(t, h, full+", work 0, drop 7, work 0, give 0 0", "? ? ? ? / ? ? ? ? / - - / "+repeated(">11 ", 7)+"<02:a2 / 0", impl.ErrLimit, impl.ErrLimit)
	// a job whose answer is known is worked on, too
	wantHall(t, h, "give 0 0, give 1 0, deliver 0, deliver 0, work 0, deliver 0, work 1", "01 ? ? ? / ? ? ? ? / - - / <10:01 / 0")
}

func TestPacketsComeIn(t *testing.T) {
	h := mixedHouse(2)
	// a clerk whose bench is not empty: the job on it is lost, also if it is the same
	wantHall(t, h, "give 0 0, give 0 1, deliver 0, deliver 0", "? ? ? ? / ? ? ? ? / 1 - /  / 0")
	wantHall(t, h, "give 0 0, give 0 1, deliver 1, deliver 0, work 0, work 0", "? ? ? ? / ? ? ? ? / - - / <00:01 / 0", impl.ErrState)
	wantHall(t, h, "give 0 3, copy 0, copy 0, deliver 0, work 0", "? ? ? ? / ? ? ? ? / - - / <03:0 / 0")
	// each clerk has a bench of its own
	wantHall(t, h, "give 0 0, give 1 1, copy 1, deliver 0", "? ? ? ? / ? ? ? ? / 0 1 / >11 / 0")
	// a job that is given twice, to one clerk and to several
	wantHall(t, h, "give 0 1, give 0 1, deliver 0, work 0, deliver 0, work 0, deliver 0, deliver 0", "? p3 ? ? / ? ? ? ? / - - /  / 0")
	wantHall(t, h, "give 0 1, give 1 1, deliver 0, deliver 0, work 1, work 0, deliver 1, deliver 0", "? p3 ? ? / ? ? ? ? / - - /  / 0")
	wantHall(t, h, "give 0 1, copy 0, work 0, copy 0, work 0, copy 1, copy 2", "? p3 ? ? / ? ? ? ? / - - / >01 <01:p3 <01:p3 / 0")
	// an answer that comes in twice, after it is known: the first verdict stays
	wantHall(t, h, "give 0 3, deliver 0, work 0, copy 0, spoil 0, deliver 0", "? ? ? 0 / ? ? ? ? / - - /  / 0")
	wantHall(t, h, "give 0 3, deliver 0, work 0, spoil 0, copy 0, spoil 0, deliver 0", "? ? ? 1 / ? ? ? ? / - - /  / 0")
	wantHall(t, h, "give 0 0, copy 0, work 0, deliver 0, work 0, copy 0, copy 0, deliver 0", "01 ? ? ? / ? ? ? ? / - - / <00:01 / 0")
	// no such packet
	wantHall(t, h, "deliver 0, copy 0, drop 0, spoil 0", "? ? ? ? / ? ? ? ? / - - /  / 0", impl.ErrRange, impl.ErrRange, impl.ErrRange, impl.ErrRange)
	wantHall(t, h, "give 0 0, deliver 1, copy 1, drop 1, spoil 1, deliver 999, copy 999, drop 999, spoil 999", "? ? ? ? / ? ? ? ? / - - / >00 / 0", slices.Repeat([]int64{impl.ErrRange}, 8)...)
}

func TestOrderOfTheWire(t *testing.T) {
	h := mixedHouse(3)
	four := "give 0 0, give 1 1, give 2 2, give 0 3"
	none := "? ? ? ? / ? ? ? ? / "
	wantHall(t, h, four, none+"- - - / >00 >11 >22 >03 / 0")
	wantHall(t, h, four+", drop 1", none+"- - - / >00 >22 >03 / 0")
	wantHall(t, h, four+", deliver 1", none+"- 1 - / >00 >22 >03 / 0")
	wantHall(t, h, four+", copy 1", none+"- 1 - / >00 >11 >22 >03 / 0")
	wantHall(t, h, four+", drop 0, drop 2", none+"- - - / >11 >22 / 0")
	wantHall(t, h, four+", drop 3, deliver 0, work 0, give 0 3", none+"- - - / >11 >22 <00:01 >03 / 0")
	wantHall(t, h, four+", deliver 2, drop 0, drop 0, drop 0, drop 0", none+"- - 2 /  / 0", impl.ErrRange)
	wantHall(t, h, four+", copy 3, drop 3, copy 3", none+"3 - - / >00 >11 >22 / 0", impl.ErrRange)
	// up to MaxWire packets, again and again
	eight := strings.Join(slices.Repeat([]string{"give 0 0, give 1 1"}, 4), ", ")
	packets := strings.TrimSpace(repeated(">00 >11 ", 4))
	wantHall(t, h, eight, none+"- - - / "+packets+" / 0")
	wantHall(t, h, eight+", give 2 2, copy 7, give 2 2, work 1, deliver 0, give 2 2, give 2 2", none+"0 1 - / "+strings.TrimPrefix(packets, ">00 ")+" >22 / 0", impl.ErrLimit, impl.ErrLimit, impl.ErrLimit, impl.ErrLimit)
}

func TestSpoiltPackets(t *testing.T) {
	h := mixedHouse(2)
	work := func(job int) string { return fmt.Sprint("give 1 ", job, ", deliver 0, work 1") }
	none := "? ? ? ? / ? ? ? ? / - - / "
	// spoilt once and twice, and then delivered
	wantHall(t, h, work(0)+", spoil 0", none+"<10:11 / 0")
	wantHall(t, h, work(0)+", spoil 0, deliver 0", none+" / 1")
	wantHall(t, h, work(0)+", spoil 0, spoil 0", none+"<10:01 / 0")
	wantHall(t, h, work(0)+", spoil 0, spoil 0, deliver 0", "01 ? ? ? / ? ? ? ? / - - /  / 0")
	wantHall(t, h, work(2)+", spoil 0, copy 0, spoil 0, deliver 0", none+" / 2")
	// right by chance: it becomes the answer as it is
	wantHall(t, h, work(3)+", spoil 0, deliver 0", "? ? ? 1 / ? ? ? ? / - - /  / 0")
	wantHall(t, h, work(1)+", spoil 0, deliver 0", "? p2 ? ? / ? ? ? ? / - - /  / 0")
	wantHall(t, h, work(1)+", spoil 0, spoil 0, deliver 0", "? p1 ? ? / ? ? ? ? / - - /  / 0")
	wantHall(t, h, work(1)+", spoil 0, spoil 0, spoil 0, copy 0, spoil 0, deliver 0", none+" / 2")
	// nothing is left to be spoilt, and yet it is right
	wantHall(t, house(swap(), 1, "2 0:11"), "give 0 0, deliver 0, work 0, spoil 0, deliver 0", "p0 / ? / - /  / 0")
	// the clerk, the job and the packets beside it stay
	wantHall(t, h, work(0)+", give 0 1, "+strings.Replace(work(3), "deliver 0", "deliver 2", 1)+", spoil 2", none+"<10:01 >01 <13:1 / 0")
	// a wrong verdict counts behind the right one, too, and does not change the answer
	wantHall(t, h, work(0)+", copy 0, spoil 0, copy 0, copy 0", "01 ? ? ? / ? ? ? ? / - - / <10:11 / 2")
	// a packet that is not Back: ErrState, and ErrRange ahead of it
	wantHall(t, h, "give 0 0, spoil 0, spoil 1", "? ? ? ? / ? ? ? ? / - - / >00 / 0", impl.ErrState, impl.ErrRange)
	wantHall(t, h, work(0)+", give 0 1, spoil 1, spoil 0", none+"<10:11 >01 / 0", impl.ErrState)
	// values greater than 1, and the value 0 of a variable that has to have another one
	wantHall(t, boundHouse(t), "give 0 0, deliver 0, work 0, spoil 0", "? ? ? ? / ? ? ? ? / - - - / <00:020 / 0")
	wantHall(t, boundHouse(t), "give 0 2, deliver 0, work 0, spoil 0, copy 0, spoil 0, deliver 0", "? ? ? ? / ? ? ? ? / - - - /  / 2")
	wantHall(t, parityHouse(t), "give 0 0, deliver 0, work 0, spoil 0, deliver 0", "? ? ? / ? ? ? / - - /  / 1")
	// the size 1: a spoilt value is none
	wantHall(t, house(template(t, "1/1 0"), 1, "2 0:1"), "give 0 0, deliver 0, work 0, spoil 0, copy 0, spoil 0, deliver 0", "00 / ? / - /  / 1")
}

func TestCrashes(t *testing.T) {
	h := mixedHouse(2)
	get := func(job int) string { return fmt.Sprint("give 0 ", job, ", deliver 0, work 0, deliver 0") }
	none := "? ? ? ? / ? ? ? ? / - - /  / 0"
	wantHall(t, h, "save, crash, crash, save", none)
	// before anything is saved
	wantHall(t, h, get(0)+", crash", none)
	wantHall(t, h, get(0)+", "+get(1)+", crash, crash", none)
	// what is saved ahead of a crash is kept, what comes in behind it is not
	wantHall(t, h, get(0)+", save", "01 ? ? ? / 01 ? ? ? / - - /  / 0")
	wantHall(t, h, get(0)+", save, "+get(1), "01 p3 ? ? / 01 ? ? ? / - - /  / 0")
	wantHall(t, h, get(0)+", save, "+get(1)+", crash", "01 ? ? ? / 01 ? ? ? / - - /  / 0")
	wantHall(t, h, get(0)+", save, crash, "+get(1)+", crash, "+get(3), "01 ? ? 0 / 01 ? ? ? / - - /  / 0")
	wantHall(t, h, get(0)+", save, "+get(1)+", crash, crash, "+get(2)+", save, crash", "01 ? a2 ? / 01 ? a2 ? / - - /  / 0")
	// a crash and a save leave nothing
	wantHall(t, h, get(0)+", crash, save, "+get(1)+", crash", none)
	wantHall(t, h, get(0)+", save, crash, save, "+get(1)+", save, crash", "01 p3 ? ? / 01 p3 ? ? / - - /  / 0")
	// benches, the wire and Wrong stay as they are
	busy := "give 0 0, give 1 3, copy 1, deliver 0, work 0, spoil 1, give 1 2"
	wantHall(t, h, busy+", copy 1", "? ? ? ? / ? ? ? ? / - 3 / >13 <00:11 >12 / 1")
	wantHall(t, h, busy+", copy 1, crash", "? ? ? ? / ? ? ? ? / - 3 / >13 <00:11 >12 / 1")
	wantHall(t, h, busy+", copy 1, save, crash, copy 1, crash", "? ? ? ? / ? ? ? ? / - 3 / >13 <00:11 >12 / 2")
	// an answer comes in again behind a crash, with another verdict
	wantHall(t, h, "give 0 3, deliver 0, work 0, copy 0, spoil 0, crash, deliver 0", "? ? ? 1 / ? ? ? ? / - - /  / 0")
	wantHall(t, h, "give 0 3, deliver 0, work 0, copy 0, save, spoil 0, crash, deliver 0", "? ? ? 0 / ? ? ? 0 / - - /  / 0")
	// an answer that is not saved can be asked for again
	wantHall(t, h, get(0)+", save, "+get(1)+", crash, give 1 0, give 1 1", "01 ? ? ? / 01 ? ? ? / - - / >11 / 0", impl.ErrState)
}

// drawnDeed returns a deed that may be right for a hall, or not.
func drawnDeed(source *rand.Rand, p *play) impl.Deed {
	kinds := []int64{1, 1, 1, 1, 1, 2, 2, 2, 2, 2, 2, 3, 3, 3, 3, 3, 4, 4, 5, 6, 6, 6, 7, 8}
	d := impl.Deed{Kind: kinds[source.IntN(len(kinds))]}
	switch d.Kind {
	case impl.DdGive:
		d.A, d.B = source.Int64N(p.house.Clerks), source.Int64N(int64(len(p.house.Jobs)))
	case impl.DdWork:
		d.A = source.Int64N(p.house.Clerks)
	case impl.DdSave, impl.DdCrash:
		return d
	default:
		d.A = source.Int64N(int64(len(p.hall.Wire)) + 1)
	}
	if source.IntN(15) == 0 {
		d.A = source.Int64N(9)
	}
	if source.IntN(15) == 0 && d.Kind == impl.DdGive {
		d.B = source.Int64N(6)
	}
	return d
}

// drawnDeeds returns so many deeds for a house.
func drawnDeeds(source *rand.Rand, h impl.House, count int) []impl.Deed {
	p := playOf(h)
	var list []impl.Deed
	for range count {
		d := drawnDeed(source, p)
		list = append(list, d)
		p.do(d)
	}
	return list
}

func TestHallsByDefinition(t *testing.T) {
	source := rand.New(rand.NewPCG(2, 10))
	met := map[string]int{}
	check := func(h impl.House) {
		list := drawnDeeds(source, h, source.IntN(60))
		p := checkHall(t, h, list)
		for i, code := range p.codes {
			met[fmt.Sprint(deedWords[list[i].Kind], " ", impl.CodeName(code))]++
		}
		if p.hall.Wrong > 0 {
			met["wrong"]++
		}
		for i, a := range p.hall.Answers {
			if a.Known && !impl.SameVerdict(a.Verdict, p.verdicts[i]) {
				met["right by chance"]++
			}
			met[fmt.Sprint("known ", a.Known)]++
		}
	}
	eachHouse(103, 4, check)
	for range 60 {
		check(mixedHouse(1 + source.Int64N(3)))
		check(parityHouse(t))
		check(boundHouse(t))
	}
	for _, what := range []string{
		"give ok", "give range", "give state", "give limit", "work ok", "work range", "work state", "work limit", "deliver ok", "deliver range", "copy ok", "copy range", "drop ok", "drop range", "spoil ok", "spoil range", "spoil state", "save ok", "crash ok", "wrong", "right by chance", "known true", "known false",
	} {
		if met[what] < 20 {
			t.Errorf("too few: %s: %d", what, met[what])
		}
	}
}

func TestUpToMaxDeeds(t *testing.T) {
	h := exampleHouse()
	for _, short := range []string{"save", "crash", "give 0 0", "drop 0", "work 999"} {
		list := slices.Repeat(deeds(short), 201)
		checkHall(t, h, list[:200])
		wantCode(t, "HallAfter", impl.ErrRange, impl.HallAfter, h, list)
	}
	// deeds that are left out count, too
	wantCall(t, "RefusedDeed", []any{199, impl.ErrState, 0}, impl.RefusedDeed, h, append(slices.Repeat(deeds("save"), 199), deeds("work 0")...))
	checkHall(t, h, append(slices.Repeat(deeds("work 7"), 196), deeds("give 0 0, deliver 0, work 0, deliver 0")...))
}
