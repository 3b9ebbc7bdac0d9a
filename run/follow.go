package run

import (
	"interleave/api"
	"interleave/code"
)

// Follow answers how a run stands behind a schedule, and what its steps did,
// or false if some thread cannot step where it should.
func Follow(program code.Program, schedule []int) (State, []api.Event, bool) {
	s := Begin(program)
	var events []api.Event
	groups := 0
	for _, number := range schedule {
		next, event, can := s.Step(program, number)
		if !can {
			return State{}, nil, false
		}
		s = next
		event.Group = groupOf(events, event, groups)
		if event.Group == groups {
			groups++
		}
		events = append(events, event)
	}
	return s, events, true
}

// groupOf is the group of an event behind earlier ones: that of its block, if
// a step of it has come before, else the next new one.
func groupOf(earlier []api.Event, event api.Event, next int) int {
	if event.Block == api.NoBlock {
		return next
	}
	for _, e := range earlier {
		if e.Thread == event.Thread && e.Block == event.Block {
			return e.Group
		}
	}
	return next
}
