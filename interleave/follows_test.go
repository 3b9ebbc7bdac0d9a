package interleave_test

import (
	"math/rand"
	"slices"
	"testing"

	"interleave/api"
	"interleave/interleave"
)

// smallPrograms: programs of few steps, of which all runs are looked at.
func smallPrograms() []string {
	texts := []string{
		"", "!\n+1", "[ra+1wa]\n[ra+1wa]", "[lPra+1wauP]\n[lPra+1wauP]", "lPlQuQuP\nlQlPuPuQ", "+1wb\n[rara]\nrb!",
		"[rawb]\n[rbwc]\n[rcwa]", "[lPuPlPuP]\n[lPuP]", "lP[ra+1wa]uP\n[ra+1wa]", "[ra?1wb]rc\n+1[wawb]", "uPwa\nlP\n[lPuP]",
		"lP!uP\nlPuPra!", "[rarb]\nwa\nwb\nwa", "[rara^1!]\n+1wa", "[lPuQ]\nuPuQ\n[ra]", "[wa]\n[ra]wb[rb]\n[rawa]", "[uP]\n[lPlPuP]\nlP",
	}
	random := rand.New(rand.NewSource(6))
	for range 300 {
		text := randomText(random, 2+random.Intn(5))
		if len(text) <= api.MaxText {
			texts = append(texts, text)
		}
	}
	return texts
}

// schedules lists all schedules of a program that begin with one, itself too.
func schedules(t *testing.T, p *interleave.Program, schedule []int) [][]int {
	t.Helper()
	ready, e := p.Ready(schedule)
	if e != api.OK {
		t.Fatalf("P5: Ready(%v) = %v, %d", schedule, ready, e)
	}
	all := [][]int{schedule}
	for _, i := range ready {
		all = append(all, schedules(t, p, append(slices.Clone(schedule), i))...)
	}
	return all
}

func eventsOf(t *testing.T, p *interleave.Program, schedule []int) []api.Event {
	t.Helper()
	events, e := p.Events(schedule)
	if e != api.OK || len(events) != len(schedule) {
		t.Fatalf("P7: Events(%v) = %v, %d", schedule, events, e)
	}
	return events
}

func isAtomic(t *testing.T, p *interleave.Program, schedule []int) bool {
	t.Helper()
	cycle, e := p.Cycle(schedule)
	if e != api.OK {
		t.Fatalf("P8: Cycle(%v) = %v, %d", schedule, cycle, e)
	}
	return cycle == nil
}

// without leaves out the groups, whose numbers hang on the schedule's order.
func without(events []api.Event) []api.Event {
	events = slices.Clone(events)
	for i := range events {
		events[i].Group = 0
	}
	return events
}

// P12, the first sentence. What stands behind is what Play and Ready tell, and
// what all further steps do; so schedules that go on behind the neighbours are
// looked at too.
func TestNeighboursChangePlaces(t *testing.T) {
	for _, text := range smallPrograms() {
		p := program(t, text)
		for _, schedule := range schedules(t, p, nil) {
			events := eventsOf(t, p, schedule)
			for i := 1; i < len(events); i++ {
				if hangs(events[i-1], events[i]) {
					continue
				}
				other := slices.Clone(schedule)
				other[i-1], other[i] = schedule[i], schedule[i-1]
				checkSameBehind(t, p, text, schedule, other)
				want := without(events)
				want[i-1], want[i] = want[i], want[i-1]
				if got := without(eventsOf(t, p, other)); !slices.Equal(got, want) {
					t.Errorf("P12: %q: the steps of %v are %v, want %v", text, other, got, want)
				}
				if isAtomic(t, p, schedule) != isAtomic(t, p, other) {
					t.Errorf("P12: %q: one of %v and %v is atomic", text, schedule, other)
				}
			}
		}
	}
}

// P12, the second sentence: as above, what goes on behind is looked at too.
func TestArrangedStandsAsBefore(t *testing.T) {
	for _, text := range smallPrograms() {
		p := program(t, text)
		for _, schedule := range schedules(t, p, nil) {
			if !isAtomic(t, p, schedule) {
				continue
			}
			l, e := p.Arrange(schedule)
			if e != api.OK {
				t.Errorf("P9: %q: Arrange(%v) = %v, %d", text, schedule, l, e)
				continue
			}
			if events := eventsOf(t, p, l); !sideBySide(events) {
				t.Errorf("P12: %q: Arrange(%v) = %v, with the steps %v", text, schedule, l, events)
			}
			checkSameBehind(t, p, text, schedule, l)
			checkSameFurther(t, p, text, schedule, l)
		}
	}
}

// checkSameFurther: what goes on behind the one schedule does what it does
// behind the other.
func checkSameFurther(t *testing.T, p *interleave.Program, text string, a, b []int) {
	t.Helper()
	for _, longer := range schedules(t, p, a) {
		further := longer[len(a):]
		other := append(slices.Clone(b), further...)
		want := without(eventsOf(t, p, longer))[len(a):]
		if got := without(eventsOf(t, p, other))[len(b):]; !slices.Equal(got, want) {
			t.Errorf("P12: %q: behind %v the steps of %v are %v, behind %v %v", text, a, further, want, b, got)
		}
		checkSameBehind(t, p, text, longer, other)
	}
}

// P12, the third sentence.
func TestBlocksSideBySideAreAtomic(t *testing.T) {
	for _, text := range smallPrograms() {
		p := program(t, text)
		for _, schedule := range schedules(t, p, nil) {
			if sideBySide(eventsOf(t, p, schedule)) && !isAtomic(t, p, schedule) {
				t.Errorf("P12: %q: the blocks of %v stand side by side, but it is not atomic", text, schedule)
			}
		}
	}
}

// P12, the fourth sentence; it is why a search may look at whole schedules
// alone: if all of them are atomic, all schedules are.
func TestBeginningsOfAtomicAreAtomic(t *testing.T) {
	for _, text := range smallPrograms() {
		p := program(t, text)
		verdict := p.Check()
		for _, schedule := range schedules(t, p, nil) {
			if verdict.Atomic && !isAtomic(t, p, schedule) {
				t.Errorf("P12: %q: all whole schedules are atomic, but %v is not", text, schedule)
			}
			if !isAtomic(t, p, schedule) {
				continue
			}
			for n := range schedule {
				if !isAtomic(t, p, schedule[:n]) {
					t.Errorf("P12: %q: %v is atomic, but its beginning %v is not", text, schedule, schedule[:n])
				}
			}
		}
	}
}
