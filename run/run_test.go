package run

import (
	"testing"

	"interleave/api"
	"interleave/code"
)

func read(t *testing.T, text string) code.Program {
	t.Helper()
	p, ok, place := code.Read(text)
	if !ok {
		t.Fatalf("%q is no program text, from %d on", text, place)
	}
	return p
}

func TestStepLeavesTheStateBefore(t *testing.T) {
	p := read(t, "+1walPuPuP\nra")
	s := Begin(p)
	for range 4 {
		before := s
		next, _, ok := s.Step(p, 0)
		if !ok || s != before || next == before {
			t.Fatalf("a step from %+v to %+v left %+v", before, next, s)
		}
		s = next
	}
}

func TestStepRefused(t *testing.T) {
	p := read(t, "lP\nlP")
	s, _, _ := Begin(p).Step(p, 1)
	for _, number := range []int{-1 << 63, -1, 0, 1, 2, 3, 4, 1<<63 - 1} {
		next, event, ok := s.Step(p, number)
		if ok || next != (State{}) || event != (api.Event{}) {
			t.Errorf("Step of %d = %+v, %+v, %v, want false", number, next, event, ok)
		}
	}
}

func TestFollowRefused(t *testing.T) {
	p := read(t, "ra")
	s, events, ok := Follow(p, []int{0, 0})
	if ok || s != (State{}) || events != nil {
		t.Errorf("Follow = %+v, %v, %v, want false", s, events, ok)
	}
}

func TestCountPassed(t *testing.T) {
	for _, c := range []struct {
		text        string
		asked, want int
	}{{"rawb!", 0, 0}, {"rawb!", 2, 2}, {"rawb!", 3, 3}, {"rawb!", 9, 3}, {"ra[wb]", 2, 1}, {"[ra]", 1, 0}, {"", 9, 0}, {"?1+1", 2, 2}} {
		ops := read(t, c.text).Thread(0)
		if n := countPassed(ops, 0, c.asked); n != c.want {
			t.Errorf("%q: of %d operations %d are passed over, want %d", c.text, c.asked, n, c.want)
		}
	}
}

func TestReckonedWraps(t *testing.T) {
	for _, c := range []struct {
		register   api.Value
		kind, name byte
		want       api.Value
	}{
		{32767, '+', '1', -32768}, {-32768, '-', '1', 32767}, {16384, '*', '2', -32768}, {-32768, '*', '9', -32768}, {-1, '*', '9', -9},
		{-1, '^', '9', -10}, {5, '^', '3', 6}, {1, '<', '9', 512}, {-1, '<', '9', -512}, {127, '<', '9', -512}, {7, '<', '0', 7},
		{7, '[', 0, 7}, {7, ']', 0, 7},
	} {
		if v := reckoned(c.register, code.Op{Kind: c.kind, Name: c.name}); v != c.want {
			t.Errorf("%d %c %c = %d, want %d", c.register, c.kind, c.name, v, c.want)
		}
	}
}
