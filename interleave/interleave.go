// Package interleave: the runs of small programs of several threads: see DOC.md.
package interleave

import (
	"interleave/api"
	"interleave/code"
	"interleave/order"
	"interleave/run"
	"interleave/search"
)

// Program is a program text that was read.
type Program struct {
	code code.Program
}

// New reads a program text (P3).
func New(text string) (*Program, api.Errno, int) {
	if len(text) > api.MaxText {
		return nil, api.ErrLong, 0
	}
	read, ok, place := code.Read(text)
	if !ok {
		return nil, api.ErrForm, place
	}
	if read.CountShared() > api.MaxSteps {
		return nil, api.ErrMany, 0
	}
	return &Program{code: read}, api.OK, 0
}

// Threads tells how many threads there are (P4).
func (p *Program) Threads() int { return len(p.code.Threads) }

// Ready tells which threads can step behind a schedule (P5).
func (p *Program) Ready(schedule []int) ([]int, api.Errno) {
	state, _, ok := run.Follow(p.code, schedule)
	if !ok {
		return nil, api.ErrStep
	}
	return state.Ready(p.code), api.OK
}

// Play tells how a run stands behind a schedule (P6).
func (p *Program) Play(schedule []int) (api.Result, api.Errno) {
	state, _, ok := run.Follow(p.code, schedule)
	if !ok {
		return api.Result{}, api.ErrStep
	}
	return state.Result(p.code), api.OK
}

// Events tells what the steps of a schedule did (P7).
func (p *Program) Events(schedule []int) ([]api.Event, api.Errno) {
	_, events, ok := run.Follow(p.code, schedule)
	if !ok {
		return nil, api.ErrStep
	}
	return events, api.OK
}

// Cycle tells a cycle of a schedule's groups (P8).
func (p *Program) Cycle(schedule []int) ([]int, api.Errno) {
	_, events, ok := run.Follow(p.code, schedule)
	if !ok {
		return nil, api.ErrStep
	}
	return order.Cycle(events), api.OK
}

// Arrange brings a schedule's groups one behind the other (P9).
func (p *Program) Arrange(schedule []int) ([]int, api.Errno) {
	_, events, ok := run.Follow(p.code, schedule)
	if !ok {
		return nil, api.ErrStep
	}
	arranged, atomic := order.Arrange(events)
	if !atomic {
		return nil, api.ErrKnot
	}
	return arranged, api.OK
}

// Check tells whether all runs are atomic (P10).
func (p *Program) Check() api.Verdict {
	schedule, cycle := search.Knot(p.code)
	return api.Verdict{Atomic: cycle == nil, Schedule: schedule, Cycle: cycle}
}

// Outcomes tells how runs can end (P11).
func (p *Program) Outcomes() []api.Result { return search.Outcomes(p.code) }
