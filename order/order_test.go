package order

import (
	"slices"
	"testing"

	"interleave/api"
)

func step(thread int, op string, group int) api.Event {
	return api.Event{Thread: thread, Kind: op[0], Name: op[1], Group: group}
}

// Every pair of shared operations, of one thread and of two: the document's
// words for what hangs on one another, case by case.
func TestHang(t *testing.T) {
	var all []string
	for _, name := range []string{"a", "b", "c", "d"} {
		all = append(all, "r"+name, "w"+name)
	}
	for _, name := range []string{"P", "Q"} {
		all = append(all, "l"+name, "u"+name)
	}
	pairs := []string{"rw", "wr", "ww", "ll", "lu", "ul", "uu"}
	for _, a := range all {
		for _, b := range all {
			want := a[1] == b[1] && slices.Contains(pairs, a[:1]+b[:1])
			if got := hang(step(0, a, 0), step(1, b, 1)); got != want {
				t.Errorf("hang(0 %s, 1 %s) = %v, want %v", a, b, got, want)
			}
			if !hang(step(2, a, 0), step(2, b, 1)) {
				t.Errorf("hang(2 %s, 2 %s) = false: they are of one thread", a, b)
			}
		}
	}
}

func TestNoSteps(t *testing.T) {
	if l := Cycle(nil); l != nil {
		t.Errorf("Cycle(nil) = %v, want nil", l)
	}
	if l, ok := Arrange(nil); len(l) != 0 || !ok {
		t.Errorf("Arrange(nil) = %v, %v, want none, true", l, ok)
	}
}

// A knot with a group before it and one behind it, which are in no cycle.
func TestCycleLeavesOutOthers(t *testing.T) {
	events := []api.Event{
		step(2, "wa", 0), step(0, "ra", 1), step(1, "ra", 2), step(0, "wa", 1), step(1, "wa", 2), step(3, "ra", 3),
	}
	if l := Cycle(events); !slices.Equal(l, []int{1, 2}) && !slices.Equal(l, []int{2, 1}) {
		t.Errorf("Cycle = %v, want 1, 2 or 2, 1", l)
	}
	if l, ok := Arrange(events); l != nil || ok {
		t.Errorf("Arrange = %v, %v, want none, false", l, ok)
	}
}

// Three groups of which no two make a cycle: 0 is ahead of 2, 2 of 1, 1 of 0.
func TestCycleGoesTheRightWay(t *testing.T) {
	events := []api.Event{
		step(0, "wa", 0), step(1, "wb", 1), step(2, "wc", 2),
		step(0, "rb", 0), step(1, "rc", 1), step(2, "ra", 2),
	}
	l := Cycle(events)
	if !slices.Equal(l, []int{0, 2, 1}) && !slices.Equal(l, []int{2, 1, 0}) && !slices.Equal(l, []int{1, 0, 2}) {
		t.Errorf("Cycle = %v, want 0, 2, 1 from any of them on", l)
	}
}

// The lowest thread comes next each time, not the groups in their own order.
func TestArrangeTakesTheLowestThread(t *testing.T) {
	events := []api.Event{
		step(3, "ra", 0), step(2, "wb", 1), step(1, "rc", 2), step(0, "rb", 3), step(1, "wa", 4),
	}
	want := []int{1, 2, 0, 3, 1}
	if l, ok := Arrange(events); !slices.Equal(l, want) || !ok {
		t.Errorf("Arrange = %v, %v, want %v", l, ok, want)
	}
}

func TestEventsAreLeft(t *testing.T) {
	events := []api.Event{step(1, "ra", 0), step(0, "wb", 1), step(1, "rc", 0), step(0, "rd", 2)}
	kept := slices.Clone(events)
	Cycle(events)
	Arrange(events)
	if !slices.Equal(events, kept) {
		t.Errorf("the events %v became %v", kept, events)
	}
}
