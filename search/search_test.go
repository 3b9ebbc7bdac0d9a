package search

import (
	"slices"
	"testing"

	"interleave/api"
	"interleave/code"
)

func read(t *testing.T, text string) code.Program {
	t.Helper()
	p, ok, place := code.Read(text)
	if !ok {
		t.Fatalf("%q is no program text, from %d on", text, place)
	}
	return p
}

func TestKnotIsTheFirst(t *testing.T) {
	for _, c := range []struct {
		text            string
		schedule, cycle []int
	}{
		{"", nil, nil}, {"[rara]\nra", nil, nil}, {"[rara]\nwa", []int{0, 1, 0}, []int{0, 1}}, {"wa\n[rara]", []int{1, 0, 1}, []int{0, 1}},
		{"[rara]\nrb\nwa", []int{0, 1, 2, 0}, []int{0, 2}},
	} {
		schedule, cycle := Knot(read(t, c.text))
		slices.Sort(cycle)
		if !slices.Equal(schedule, c.schedule) || !slices.Equal(cycle, c.cycle) {
			t.Errorf("%q: Knot = %v, %v, want %v, %v", c.text, schedule, cycle, c.schedule, c.cycle)
		}
	}
}

func TestBehindIsFresh(t *testing.T) {
	schedule := append(make([]int, 0, 9), 1, 2)
	first := behind(schedule, 3)
	second := behind(schedule, 0)
	if !slices.Equal(first, []int{1, 2, 3}) || !slices.Equal(second, []int{1, 2, 0}) || !slices.Equal(schedule, []int{1, 2}) {
		t.Errorf("behind %v: %v, %v", schedule, first, second)
	}
}

// Each result is laid into all places of a list that is in order, and once
// more.
func TestWithKeepsTheOrder(t *testing.T) {
	row := []api.Result{
		{End: api.Done, Store: api.Store{-32768, 5}}, {End: api.Done, Store: api.Store{-1, 9}}, {End: api.Done, Store: api.Store{0, -3, 9}},
		{End: api.Done, Store: api.Store{0, 0, -1, 9}}, {End: api.Done, Store: api.Store{0, 0, 0, -1}}, {End: api.Done},
		{End: api.Done, Store: api.Store{0, 0, 0, 1}}, {End: api.Done, Store: api.Store{32767, -1}},
		{End: api.Failed, Store: api.Store{-5}}, {End: api.Failed}, {End: api.Stuck, Store: api.Store{-9}},
	}
	for i, more := range row {
		less := slices.Delete(slices.Clone(row), i, i+1)
		kept := slices.Clone(less)
		l := with(less, more)
		if !slices.Equal(l, row) || !slices.Equal(less, kept) {
			t.Errorf("%v with %v = %v", kept, more, l)
		}
		if l = with(l, more); !slices.Equal(l, row) {
			t.Errorf("%v with %v once more = %v", row, more, l)
		}
		for j, other := range row {
			if comesBefore(more, other) != (i < j) {
				t.Errorf("does %v come before %v? %v", more, other, comesBefore(more, other))
			}
		}
	}
}
