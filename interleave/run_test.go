package interleave_test

import (
	"math/rand"
	"reflect"
	"slices"
	"strings"
	"testing"

	"interleave/api"
	"interleave/interleave"
)

func program(t *testing.T, text string) *interleave.Program {
	t.Helper()
	p, e, at := interleave.New(text)
	if p == nil || e != api.OK {
		t.Fatalf("P3: New(%q) = %v, %d, %d", text, p != nil, e, at)
	}
	return p
}

func list(l ...int) []int { return l }

func result(end uint8, values ...api.Value) api.Result {
	r := api.Result{End: end}
	copy(r.Store[:], values)
	return r
}

// checkRefused: a thread that cannot step is ErrStep, and nothing beside it.
func checkRefused(t *testing.T, p *interleave.Program, text string, schedule []int) {
	t.Helper()
	if l, e := p.Ready(schedule); l != nil || e != api.ErrStep {
		t.Errorf("P5: %q: Ready(%v) = %v, %d, want ErrStep", text, schedule, l, e)
	}
	if r, e := p.Play(schedule); r != (api.Result{}) || e != api.ErrStep {
		t.Errorf("P6: %q: Play(%v) = %+v, %d, want ErrStep", text, schedule, r, e)
	}
	if l, e := p.Events(schedule); l != nil || e != api.ErrStep {
		t.Errorf("P7: %q: Events(%v) = %+v, %d, want ErrStep", text, schedule, l, e)
	}
	if l, e := p.Cycle(schedule); l != nil || e != api.ErrStep {
		t.Errorf("P8: %q: Cycle(%v) = %v, %d, want ErrStep", text, schedule, l, e)
	}
	if l, e := p.Arrange(schedule); l != nil || e != api.ErrStep {
		t.Errorf("P9: %q: Arrange(%v) = %v, %d, want ErrStep", text, schedule, l, e)
	}
}

func checkAnswers(t *testing.T, p *interleave.Program, text string, schedule, ready []int, r api.Result, events []api.Event) {
	t.Helper()
	if l, e := p.Ready(schedule); e != api.OK || !slices.Equal(l, ready) {
		t.Errorf("P5: %q: Ready(%v) = %v, %d, want %v", text, schedule, l, e, ready)
	}
	if got, e := p.Play(schedule); e != api.OK || got != r {
		t.Errorf("P6: %q: Play(%v) = %+v, %d, want %+v", text, schedule, got, e, r)
	}
	if l, e := p.Events(schedule); e != api.OK || !slices.Equal(l, events) {
		t.Errorf("P7: %q: Events(%v) = %+v, %d, want %+v", text, schedule, l, e, events)
	}
}

// checkRuns holds every schedule of a program against the model, and every
// thread's number behind it that cannot step.
func checkRuns(t *testing.T, p *interleave.Program, text string, schedule []int) {
	m := newModel(text)
	for _, i := range schedule {
		m.step(i)
	}
	checkAnswers(t, p, text, schedule, m.ready(), m.result(), m.events)
	for i := -1; i <= api.MaxThreads; i++ {
		next := append(slices.Clone(schedule), i)
		if m.canStep(i) {
			checkRuns(t, p, text, next)
		} else {
			checkRefused(t, p, text, next)
			checkRefused(t, p, text, append(next, 0, 1, 2, 3))
		}
	}
}

func TestAllRuns(t *testing.T) {
	for _, text := range []string{
		"", "\n\n\n", "!", "!\nra", "+1!", "uP", "lPuPuP", "lQlQuQ\nlQ",
		"[ra+1wa]\n[ra+1wa]", "[lPra+1wauP]\n[lPra+1wauP]", "lPlQuQuP\nlQlPuPuQ", "+1wb\n[rara]\nrb!", "-1<9<7!",
		"lP!\nlP", "lP\nuPwa", "lP\n!\nlP", "!\nlPlP", "lPlPuP\nlPwa",
		"+9<9wa<7wb", "+1<9<6wa-1wb", "-5wa*7wb^9wc<4wd", "+7*9*9*9*9*9wa^1wb",
		"?1+5wa", "+1?1+5wa", "?9wawb+1", "?2+1[+2wa]", "[?3+1]+3wa", "?1?1+1wa", "?1[+1]wa", "?2wa!wb", "ra?1wb+1wc\n+1wa",
		"[][ra][]wa[wbrb]\nwa[wb][ra]", "[ra?2wawb]wc\n+1[wa]ra", "[lP]ra[uP]\n[lP!wb]", "+1wa\nra?1lP+1wb\nlPuP",
	} {
		checkRuns(t, program(t, text), text, nil)
	}
}

func randomThread(random *rand.Rand, steps int) string {
	var row strings.Builder
	open := false
	shared := []string{"ra", "wa", "rb", "wb", "rd", "wc", "lP", "uP", "lQ", "uQ"}
	own := []string{"+1", "-2", "*3", "^1", "<1", "+0", "-1", "?1", "?2", "?9", "!"}
	for steps > 0 {
		switch k := random.Intn(8); {
		case k < 4:
			row.WriteString(shared[random.Intn(len(shared))])
			steps--
		case k < 7:
			row.WriteString(own[random.Intn(len(own))])
		case open:
			row.WriteString("]")
			open = false
		default:
			row.WriteString("[")
			open = true
		}
	}
	if open {
		row.WriteString("]")
	}
	return row.String()
}

// randomText is a text of about so many shared operations, in up to four rows.
func randomText(random *rand.Rand, left int) string {
	var rows []string
	for left > 0 && len(rows) < api.MaxThreads {
		steps := 1 + random.Intn(left)
		rows = append(rows, randomThread(random, steps))
		left -= steps
	}
	return strings.Join(rows, "\n")
}

func TestRandomRuns(t *testing.T) {
	random := rand.New(rand.NewSource(1))
	for range 3000 {
		text := randomText(random, 1+random.Intn(6))
		if len(text) <= api.MaxText {
			checkRuns(t, program(t, text), text, nil)
		}
	}
}

func TestExamples(t *testing.T) {
	for _, c := range []struct {
		text     string
		schedule []int
		want     api.Result
		ready    []int
	}{
		{"", nil, result(api.Done), nil},
		{"[ra+1wa]\n[ra+1wa]", nil, result(api.Open), list(0, 1)},
		{"[ra+1wa]\n[ra+1wa]", list(0, 0, 1, 1), result(api.Done, 2), nil},
		{"[ra+1wa]\n[ra+1wa]", list(0, 1, 0, 1), result(api.Done, 1), nil},
		{"[lPra+1wauP]\n[lPra+1wauP]", list(0), result(api.Open), list(0)},
		{"lPlQuQuP\nlQlPuPuQ", list(0, 1), result(api.Stuck), nil},
		{"+1wb\n[rara]\nrb!", nil, result(api.Open), list(0, 1, 2)},
		{"+1wb\n[rara]\nrb!", list(2), result(api.Open), list(0, 1)},
		{"+1wb\n[rara]\nrb!", list(2, 0, 1, 1), result(api.Failed, 0, 1), nil},
		{"uP", list(0), result(api.Failed), nil},
		{"-1<9<7!", nil, result(api.Failed), nil},
	} {
		p := program(t, c.text)
		if r, e := p.Play(c.schedule); r != c.want || e != api.OK {
			t.Errorf("P6: %q: Play(%v) = %+v, %d, want %+v", c.text, c.schedule, r, e, c.want)
		}
		if l, e := p.Ready(c.schedule); !slices.Equal(l, c.ready) || e != api.OK {
			t.Errorf("P5: %q: Ready(%v) = %v, %d, want %v", c.text, c.schedule, l, e, c.ready)
		}
	}
}

func event(thread int, op string, v api.Value, block, group int) api.Event {
	return api.Event{Thread: thread, Kind: op[0], Name: op[1], Value: v, Block: block, Group: group}
}

func TestExampleEvents(t *testing.T) {
	for _, c := range []struct {
		text     string
		schedule []int
		want     []api.Event
	}{
		{"[ra+1wa]\n[ra+1wa]", list(0, 1, 0, 1), []api.Event{event(0, "ra", 0, 0, 0), event(1, "ra", 0, 0, 1), event(0, "wa", 1, 0, 0), event(1, "wa", 1, 0, 1)}},
		{"uP", list(0), []api.Event{event(0, "uP", -1, -1, 0)}},
		{"lQlQuQuQuQ", list(0, 0, 0, 0, 0), []api.Event{event(0, "lQ", 1, -1, 0), event(0, "lQ", 2, -1, 1), event(0, "uQ", 1, -1, 2), event(0, "uQ", 0, -1, 3), event(0, "uQ", -1, -1, 4)}},
		{"[][rara]rb\n[rc]", list(1, 0, 0, 0), []api.Event{event(1, "rc", 0, 0, 0), event(0, "ra", 0, 1, 1), event(0, "ra", 0, 1, 1), event(0, "rb", 0, -1, 2)}},
	} {
		if l, e := program(t, c.text).Events(c.schedule); !slices.Equal(l, c.want) || e != api.OK {
			t.Errorf("P7: %q: Events(%v) = %+v, %d, want %+v", c.text, c.schedule, l, e, c.want)
		}
	}
}

func TestWrongSchedules(t *testing.T) {
	least, greatest := -1<<63, 1<<63-1
	for _, c := range []struct {
		text     string
		schedule []int
	}{
		{"", list(0)}, {"ra", list(1)}, {"ra", list(-1)}, {"ra", list(least)}, {"ra", list(greatest)}, {"ra", list(256)}, {"ra", list(1 << 32)},
		{"ra", list(0, 0)}, {"ra", make([]int, 1000000)}, {"ra\n", list(1)}, {"ra\nrb\nrc\nrd", list(0, 1, 2, 3, 4)},
		{"lP\nlP", list(0, 1)}, {"uPra", list(0, 0)}, {"ra!rb", list(0, 0)}, {"ra\nrb", list(7, 0)}, {"!ra", list(0)}, {"?1ra", list(0)},
	} {
		checkRefused(t, program(t, c.text), c.text, c.schedule)
	}
}

// P1: whatever text and list are handed in, every call answers.
func TestEveryCallAnswers(t *testing.T) {
	random := rand.New(rand.NewSource(2))
	bytes := "rwlu+-*^<?![]\nabcdPQ0123456789x\x00\xff"
	for range 20000 {
		text := make([]byte, random.Intn(12))
		for i := range text {
			text[i] = bytes[random.Intn(len(bytes))]
		}
		p, e, at := interleave.New(string(text))
		if p == nil {
			if e == api.OK || at < 0 || at > len(text) {
				t.Errorf("P3: New(%q) = nil, %d, %d", text, e, at)
			}
			continue
		}
		schedule := make([]int, random.Intn(14))
		for i := range schedule {
			schedule[i] = random.Intn(6) - 1
		}
		p.Threads()
		p.Ready(schedule)
		p.Play(schedule)
		p.Events(schedule)
		p.Cycle(schedule)
		p.Arrange(schedule)
		p.Check()
		p.Outcomes()
	}
}

// P2: what comes out is the caller's, its spare room too.
func TestAnswersAreFresh(t *testing.T) {
	const text = "[ra+1wa]rb\n[ra+1wa]\nlP"
	p := program(t, text)
	schedule := list(0, 1, 0, 1, 2)
	ready, _ := p.Ready(nil)
	events, _ := p.Events(schedule)
	keptReady, keptEvents := slices.Clone(ready), slices.Clone(events)
	for range 3 {
		l, _ := p.Ready(nil)
		spoil(l)
		v, _ := p.Events(schedule)
		for i := range v[:cap(v)] {
			v[:cap(v)][i] = api.Event{Thread: 99, Group: 99}
		}
		_ = append(v, api.Event{Thread: 98})
	}
	again, _ := p.Ready(nil)
	eventsAgain, _ := p.Events(schedule)
	if !slices.Equal(ready, keptReady) || !slices.Equal(again, keptReady) {
		t.Errorf("P2: Ready was %v, is %v, then %v", keptReady, ready, again)
	}
	if !slices.Equal(events, keptEvents) || !slices.Equal(eventsAgain, keptEvents) {
		t.Errorf("P2: Events was %v, is %v, then %v", keptEvents, events, eventsAgain)
	}
}

// spoil writes into all the memory of a list that came out.
func spoil(l []int) {
	for i := range l[:cap(l)] {
		l[:cap(l)][i] = 99
	}
	_ = append(l, 98)
}

// P2: a cycle and an arranged schedule are the caller's too, and an arranged
// one is not the schedule that was handed in, even if it is the same.
func TestOrdersAreFresh(t *testing.T) {
	p := program(t, "[ra+1wa]\n[ra+1wa]")
	knot, rows := list(0, 1, 0, 1), list(0, 0, 1, 1)
	cycle, _ := p.Cycle(knot)
	same, _ := p.Arrange(rows)
	keptCycle, keptSame := slices.Clone(cycle), slices.Clone(same)
	for range 3 {
		l, _ := p.Cycle(knot)
		spoil(l)
		l, _ = p.Arrange(rows)
		spoil(l)
	}
	cycleAgain, _ := p.Cycle(knot)
	sameAgain, _ := p.Arrange(rows)
	if !slices.Equal(cycle, keptCycle) || !slices.Equal(cycleAgain, keptCycle) {
		t.Errorf("P2: Cycle was %v, is %v, then %v", keptCycle, cycle, cycleAgain)
	}
	if !slices.Equal(same, keptSame) || !slices.Equal(sameAgain, keptSame) {
		t.Errorf("P2: Arrange was %v, is %v, then %v", keptSame, same, sameAgain)
	}
	if !slices.Equal(knot, list(0, 1, 0, 1)) || !slices.Equal(rows, list(0, 0, 1, 1)) {
		t.Errorf("P2: the schedules became %v and %v", knot, rows)
	}
}

// P2: a schedule that is handed in is not written into, nor its spare room.
func TestSchedulesAreLeft(t *testing.T) {
	p := program(t, "[ra+1wa]\n[ra+1wa]")
	for _, given := range [][]int{{0, 1, 0, 1, 77, 78}, {1, 1, 0, 0, 77, 78}, {0, 0, 0, 1, 77, 78}} {
		kept := slices.Clone(given)
		p.Ready(given[:4])
		p.Play(given[:4])
		p.Events(given[:4])
		p.Cycle(given[:4])
		p.Arrange(given[:4])
		if !slices.Equal(given, kept) {
			t.Errorf("P2: the schedule %v became %v", kept, given)
		}
	}
}

// P2: an answer hangs on the text and the arguments, not on other Programs,
// earlier calls, or a schedule that is changed afterwards.
func TestAnswersHangOnNothingElse(t *testing.T) {
	const text = "[ra+1wa]rb\n[ra+1wa]"
	p, q := program(t, text), program(t, "lPlPlP\nuQ\nra")
	first := list(0, 1, 0)
	before, _ := p.Events(first)
	result, _ := p.Play(first)
	q.Play(list(0, 0, 2, 1))
	q.Events(list(9))
	p.Events(list(1, 1, 1))
	p.Play(list(1, 1))
	for i := range first {
		first[i] = 1
	}
	other := program(t, strings.Clone(text))
	for _, x := range []*interleave.Program{p, other} {
		after, _ := x.Events(list(0, 1, 0))
		again, _ := x.Play(list(0, 1, 0))
		if !reflect.DeepEqual(before, after) || result != again {
			t.Errorf("P2: the answers were %v, %v, then %v, %v", before, result, after, again)
		}
	}
}
