// Package search: what holds of all runs of a program.
package search

import (
	"interleave/api"
	"interleave/code"
	"interleave/order"
	"interleave/run"
)

// Knot answers a whole schedule that is not atomic, and a cycle of it, or nil
// and nil if every whole schedule is atomic. The schedules are looked through
// in one order always, so that the answer is the same for the same program.
func Knot(program code.Program) ([]int, []int) {
	begin := run.Begin(program)
	return knotFrom(program, begin, nil)
}

// knotFrom looks through the whole schedules that begin with a schedule, behind
// which the run stands as state tells. It ends, for a step brings its thread
// forward in its row, and rows end.
func knotFrom(program code.Program, state run.State, schedule []int) ([]int, []int) {
	ready := state.Ready(program)
	if len(ready) == 0 {
		return knotOf(program, schedule)
	}
	for _, number := range ready {
		next, _, _ := state.Step(program, number)
		longer := behind(schedule, number)
		whole, cycle := knotFrom(program, next, longer)
		if cycle != nil {
			return whole, cycle
		}
	}
	return nil, nil
}

// knotOf answers a schedule and a cycle of it, or nil and nil if it is atomic.
func knotOf(program code.Program, schedule []int) ([]int, []int) {
	_, events, _ := run.Follow(program, schedule)
	cycle := order.Cycle(events)
	if cycle == nil {
		return nil, nil
	}
	return schedule, cycle
}

// behind is a schedule with one more step: a fresh list, for several schedules
// begin with the same one.
func behind(schedule []int, number int) []int {
	var longer []int
	longer = append(longer, schedule...)
	return append(longer, number)
}

// Outcomes lists the results behind all whole schedules, each once, in order.
func Outcomes(program code.Program) []api.Result {
	begin := run.Begin(program)
	return gather(program, begin, nil)
}

// gather lays the results behind all runs that go on from a state among those
// that were found before. It ends as knotFrom does.
func gather(program code.Program, state run.State, found []api.Result) []api.Result {
	ready := state.Ready(program)
	if len(ready) == 0 {
		result := state.Result(program)
		return with(found, result)
	}
	for _, number := range ready {
		next, _, _ := state.Step(program, number)
		found = gather(program, next, found)
	}
	return found
}

// with is a list of results in order, with one more in its place, if it is not
// there yet.
func with(results []api.Result, more api.Result) []api.Result {
	place := 0
	for place < len(results) && comesBefore(results[place], more) {
		place++
	}
	if place < len(results) && results[place] == more {
		return results
	}
	var longer []api.Result
	longer = append(longer, results[:place]...)
	longer = append(longer, more)
	return append(longer, results[place:]...)
}

// comesBefore tells whether a result comes before another, by its End, then by
// a, b, c, d.
func comesBefore(a, b api.Result) bool {
	if a.End != b.End {
		return a.End < b.End
	}
	for i, value := range a.Store {
		if value != b.Store[i] {
			return value < b.Store[i]
		}
	}
	return false
}
