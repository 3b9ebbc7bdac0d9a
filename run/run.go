// Package run: the runs of a program, step by step.
package run

import (
	"interleave/api"
	"interleave/code"
)

// State is how a run stands.
type State struct {
	Store   api.Store
	threads [api.MaxThreads]thread
}

// Begin is the beginning of every run of a program.
func Begin(program code.Program) State {
	s := State{}
	for number := range s.threads {
		ops := program.Thread(number)
		s.threads[number] = s.threads[number].settled(ops)
	}
	return s
}

// operation answers the shared operation at which a thread stands, or false if
// it stands at none, or if there is no such thread.
func (s State) operation(program code.Program, number int) (code.Op, bool) {
	if number < 0 || number >= len(s.threads) {
		return code.Op{}, false
	}
	ops := program.Thread(number)
	return s.threads[number].operation(ops)
}

// CanStep tells whether a thread can step; a number that is no thread's cannot.
func (s State) CanStep(program code.Program, number int) bool {
	op, stands := s.operation(program, number)
	if !stands {
		return false
	}
	return op.Kind != 'l' || !s.heldByOther(op.Lock(), number)
}

// waits tells whether a thread stands at a LOCK that it cannot do yet.
func (s State) waits(program code.Program, number int) bool {
	op, stands := s.operation(program, number)
	if !stands {
		return false
	}
	return op.Kind == 'l' && s.heldByOther(op.Lock(), number)
}

func (s State) heldByOther(lock, number int) bool {
	for other, t := range s.threads {
		if other != number && t.holds[lock] > 0 {
			return true
		}
	}
	return false
}

// Step answers how the run stands behind a thread's step, and what the step
// did (but for its group, which hangs on the steps before), or false if the
// thread cannot step.
func (s State) Step(program code.Program, number int) (State, api.Event, bool) {
	if !s.CanStep(program, number) {
		return State{}, api.Event{}, false
	}
	op, _ := s.operation(program, number)
	behind, value := s.behindShared(number, op)
	t := behind.threads[number]
	t.at++
	ops := program.Thread(number)
	behind.threads[number] = t.settled(ops)
	event := api.Event{Thread: number, Kind: op.Kind, Name: op.Name, Value: value, Block: op.Block}
	return behind, event, true
}

// behindShared does a shared operation and tells the value of its event; the
// thread still stands at it.
func (s State) behindShared(number int, op code.Op) (State, api.Value) {
	t := s.threads[number]
	value := api.Value(0)
	switch op.Kind {
	case 'r':
		t.register = s.Store[op.Variable()]
		value = t.register
	case 'w':
		s.Store[op.Variable()] = t.register
		value = t.register
	case 'l':
		t.holds[op.Lock()]++
		value = api.Value(t.holds[op.Lock()])
	case 'u':
		if t.holds[op.Lock()] > 0 {
			t.holds[op.Lock()]--
			value = api.Value(t.holds[op.Lock()])
		} else {
			t.failed = true
			value = -1
		}
	}
	s.threads[number] = t
	return s, value
}

// Ready lists the threads that can step, the lowest first.
func (s State) Ready(program code.Program) []int {
	var ready []int
	for number := range s.threads {
		if s.CanStep(program, number) {
			ready = append(ready, number)
		}
	}
	return ready
}

// End tells how the run stands: api.Open, Done, Failed or Stuck.
func (s State) End(program code.Program) uint8 {
	end := uint8(api.Done)
	for number, t := range s.threads {
		if s.CanStep(program, number) {
			return api.Open
		}
		if s.waits(program, number) {
			end = api.Stuck
		}
		if t.failed && end == api.Done {
			end = api.Failed
		}
	}
	return end
}

// Result tells how the run stands, and what the variables hold.
func (s State) Result(program code.Program) api.Result {
	return api.Result{End: s.End(program), Store: s.Store}
}
