package interleave_test

import (
	"cmp"
	"math/rand"
	"reflect"
	"slices"
	"strings"
	"testing"

	"interleave/api"
	"interleave/interleave"
)

// wholeRuns answers the model behind each whole schedule of a program that
// begins with a schedule.
func wholeRuns(text string, schedule []int) []*model {
	m := newModel(text)
	for _, i := range schedule {
		m.step(i)
	}
	ready := m.ready()
	if len(ready) == 0 {
		return []*model{m}
	}
	var runs []*model
	for _, i := range ready {
		runs = append(runs, wholeRuns(text, append(slices.Clone(schedule), i))...)
	}
	return runs
}

func inOrder(a, b api.Result) int {
	if a.End != b.End {
		return cmp.Compare(a.End, b.End)
	}
	return slices.Compare(a.Store[:], b.Store[:])
}

// checkVerdict holds Check against the model's runs.
func checkVerdict(t *testing.T, p *interleave.Program, text string, runs []*model) {
	t.Helper()
	v := p.Check()
	knotted := slices.ContainsFunc(runs, func(m *model) bool { return hasCycle(aheads(m.events)) })
	if v.Atomic == knotted {
		t.Errorf("P10: %q: Check() = %+v, but is there a run that is not atomic? %v", text, v, knotted)
		return
	}
	if v.Atomic {
		if v.Schedule != nil || v.Cycle != nil {
			t.Errorf("P10: %q: Check() = %+v, want no lists", text, v)
		}
		return
	}
	checkKnot(t, text, v)
}

// checkKnot: a verdict's schedule is whole, and its cycle is one of it.
func checkKnot(t *testing.T, text string, v api.Verdict) {
	t.Helper()
	m := newModel(text)
	for _, i := range v.Schedule {
		if !m.canStep(i) {
			t.Errorf("P10: %q: Check() = %+v, whose schedule cannot be played", text, v)
			return
		}
		m.step(i)
	}
	if len(m.ready()) > 0 {
		t.Errorf("P10: %q: Check() = %+v, whose schedule is not whole", text, v)
	}
	if !isCycle(aheads(m.events), v.Cycle) {
		t.Errorf("P10: %q: Check() = %+v, whose cycle is none", text, v)
	}
}

// checkOutcomes holds Outcomes against the model's runs.
func checkOutcomes(t *testing.T, p *interleave.Program, text string, runs []*model) {
	t.Helper()
	var want []api.Result
	for _, m := range runs {
		want = append(want, m.result())
	}
	slices.SortFunc(want, inOrder)
	want = slices.Compact(want)
	if l := p.Outcomes(); !slices.Equal(l, want) {
		t.Errorf("P11: %q: Outcomes() = %v, want %v", text, l, want)
	}
}

func checkSearch(t *testing.T, text string) {
	t.Helper()
	p := program(t, text)
	runs := wholeRuns(text, nil)
	checkVerdict(t, p, text, runs)
	checkOutcomes(t, p, text, runs)
}

func ends(l ...api.Result) []api.Result { return l }

func TestCheckAndOutcomes(t *testing.T) {
	const done, failed, stuck = api.Done, api.Failed, api.Stuck
	for _, c := range []struct {
		text   string
		atomic bool
		ends   []api.Result
	}{
		// The document's examples.
		{"[ra+1wa]\n[ra+1wa]", false, ends(result(done, 1), result(done, 2))},
		{"[lPra+1wauP]\n[lPra+1wauP]", true, ends(result(done, 2))},
		{"lPlQuQuP\nlQlPuPuQ", true, ends(result(done), result(stuck))},
		// One whole schedule, be it of no step.
		{"", true, ends(result(done))},
		{"\n\n\n", true, ends(result(done))},
		{"[]\n[]", true, ends(result(done))},
		{"!", true, ends(result(failed))},
		{"\n!\n", true, ends(result(failed))},
		{"uP", true, ends(result(failed))},
		{"lPlP", true, ends(result(done))},
		{"[+1wa]rb[wa]", true, ends(result(done, 0))},
		{"\n\n\n-1wd", true, ends(result(done, 0, 0, 0, -1))},
		// Steps between those of a block that hang on it, or do not.
		{"[rara]\n+1wa", false, ends(result(done, 1))},
		{"[rara]\nra", true, ends(result(done))},
		{"[wawa]\nra", false, ends(result(done))},
		{"[lPuP]\nlPuP", true, ends(result(done))},
		{"[lPuPlPuP]\nlPuP", false, ends(result(done))},
		{"[lPuP]\nlQuQ\nuP", false, ends(result(failed))},
		{"[rawb]\n[rbwc]\n[rcwa]", false, ends(result(done))},
		{"[ra]wa\n[wa]ra", true, ends(result(done))},
		// The runs that are not atomic fail, or stick; others are done.
		{"[rara^1!]\n+1wa", false, ends(result(done, 1), result(failed, 1))},
		{"lP[rara]lQuQuP\n+1lQwalPuQ", false, ends(result(done, 1), result(stuck, 1))},
		// Only runs in which one thread comes before two others are not atomic.
		{"+1wa\nra![rbrb]\nra!wb", false, ends(result(done, 1, 1), result(failed, 1), result(failed, 1, 1))},
		{"ra![rbrb]\n+1wa\nra!wb", false, ends(result(done, 1, 1), result(failed, 1), result(failed, 1, 1))},
		{"ra![rbrb]\nra!wb\n+1wa", false, ends(result(done, 1, 1), result(failed, 1), result(failed, 1, 1))},
		// A run in which a thread waits is Stuck, even if another has failed.
		{"lP!\nlP", true, ends(result(stuck))},
		{"lP!uP\nlPuPra!", true, ends(result(failed), result(stuck))},
		// The order: End, then a, b, c, d, and what is below 0 comes first.
		{"-1wa\n+1wa", true, ends(result(done, -1), result(done, 1))},
		{"-1wa\nra<9<6wb", true, ends(result(done, -1, -32768), result(done, -1, 0))},
		{"lPra-1wauP\nlPra!uPwb\n+1wa", true, ends(result(done, -1, -1), result(done, 0, 1), result(done, 1, -1), result(done, 1, 1), result(failed), result(stuck, 1))},
		{"+1wd\nrd-1wc", true, ends(result(done, 0, 0, -1, 1), result(done, 0, 0, 0, 1))},
		{"+1wawb\n-1wbwa\n+2wc-3wc\nrcwd", true, ends(
			result(done, -1, -1, -1, -1), result(done, -1, -1, -1, 0), result(done, -1, -1, -1, 2),
			result(done, -1, 1, -1, -1), result(done, -1, 1, -1, 0), result(done, -1, 1, -1, 2),
			result(done, 1, 1, -1, -1), result(done, 1, 1, -1, 0), result(done, 1, 1, -1, 2))},
	} {
		p := program(t, c.text)
		if v := p.Check(); v.Atomic != c.atomic {
			t.Errorf("P10: %q: Check() = %+v, want %v", c.text, v, c.atomic)
		}
		if l := p.Outcomes(); !slices.Equal(l, c.ends) {
			t.Errorf("P11: %q: Outcomes() = %v, want %v", c.text, l, c.ends)
		}
		checkSearch(t, c.text)
	}
}

func TestCheckAndOutcomesOfRandomPrograms(t *testing.T) {
	random := rand.New(rand.NewSource(5))
	for range 2000 {
		text := randomText(random, 1+random.Intn(7))
		if len(text) <= api.MaxText {
			checkSearch(t, text)
		}
	}
}

// The greatest programs, with all or nearly all runs that ten steps can have.
// In some of them only runs that are far from the first one are not atomic, or
// there is one outcome for many runs.
func TestCheckAndOutcomesOfTenSteps(t *testing.T) {
	for _, text := range []string{
		"+1wa+1wb+1wc\n+4wb+1wc+1wa\n+7wcwa\nra^9wd", "ra*2wara*3wa\nra+1wara+5wa\nra*7wb", "[rbrb]rc\n[rc]rbrc\nrd[rd]\nrara",
		"[rara]rb\nrbwarb\nrcrc\nrdrd", "rararararararararara", "[wawbwcwdwa]\n[wawbwcwdwa]", "[lPra+1wauP]ra\n[lPra-1wauP]ra",
		"[lPra]wbuP\n[lQrb]wauQ\nwc\nrc",
	} {
		checkSearch(t, text)
	}
}

// P10, P2: the same answer for the same text, whatever was asked before.
func TestSearchHangsOnTheTextAlone(t *testing.T) {
	for _, text := range []string{"[ra+1wa]\n[ra+1wa]", "[rawb]\n[rbwc]\n[rcwa]", "[lPuP]\nlQuQ\nuP", "+1wa\nra!\n[rara]", "[rara]\nra"} {
		p := program(t, text)
		verdict, outcomes := p.Check(), p.Outcomes()
		for range 3 {
			program(t, "[rbrb]\nwb\n!").Check()
			program(t, "-1wa\n+2wa").Outcomes()
			p.Play(list(1, 0))
			p.Cycle(list(0, 1, 0, 1))
			other := program(t, strings.Clone(text))
			for _, x := range []*interleave.Program{p, other} {
				v, l := x.Check(), x.Outcomes()
				if !reflect.DeepEqual(v, verdict) || !slices.Equal(l, outcomes) {
					t.Errorf("P10, P2: %q: Check() and Outcomes() were %+v, %v, then %+v, %v", text, verdict, outcomes, v, l)
				}
			}
		}
	}
}

// P2: a verdict's lists share no memory with one another, nor with what comes
// out later.
func TestVerdictsAreFresh(t *testing.T) {
	p := program(t, "[ra+1wa]rb\n[ra+1wa]\nlP")
	kept := p.Check()
	schedule, cycle := slices.Clone(kept.Schedule), slices.Clone(kept.Cycle)
	for range 3 {
		v := p.Check()
		spoil(v.Schedule)
		if !slices.Equal(v.Cycle, cycle) {
			t.Errorf("P2: the cycle was %v, is %v", cycle, v.Cycle)
		}
		v = p.Check()
		spoil(v.Cycle)
		if !slices.Equal(v.Schedule, schedule) {
			t.Errorf("P2: the schedule was %v, is %v", schedule, v.Schedule)
		}
	}
	again := p.Check()
	if !slices.Equal(kept.Schedule, schedule) || !slices.Equal(kept.Cycle, cycle) || !reflect.DeepEqual(again, kept) {
		t.Errorf("P2: Check was %v, %v, is %+v, then %+v", schedule, cycle, kept, again)
	}
}

func TestOutcomesAreFresh(t *testing.T) {
	p := program(t, "+1wa\n-1wa\n+3wa")
	kept := p.Outcomes()
	want := slices.Clone(kept)
	for range 3 {
		l := p.Outcomes()
		for i := range l[:cap(l)] {
			l[:cap(l)][i] = result(9, 9, 9, 9, 9)
		}
		_ = append(l, result(8))
	}
	if again := p.Outcomes(); !slices.Equal(kept, want) || !slices.Equal(again, want) {
		t.Errorf("P2: Outcomes was %v, is %v, then %v", want, kept, again)
	}
}
