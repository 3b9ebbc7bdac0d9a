package run

import (
	"interleave/api"
	"interleave/code"
)

// thread is how a thread stands. Between steps it stands at a shared
// operation, or at none: it has ended or failed then.
type thread struct {
	at       int // the place of its operation in its row; the row's length: ended
	failed   bool
	register api.Value
	holds    [api.Locks]int // how often it holds each lock
}

// operation answers the operation at which the thread stands, or false if it
// stands at none.
func (t thread) operation(ops []code.Op) (code.Op, bool) {
	if t.failed || t.at < 0 || t.at >= len(ops) {
		return code.Op{}, false
	}
	return ops[t.at], true
}

// settled does what is not shared, up to the next shared operation. It ends,
// for each round fails or goes forward.
func (t thread) settled(ops []code.Op) thread {
	op, stands := t.operation(ops)
	for stands && !op.IsShared() {
		t = t.behindOwn(ops, op)
		op, stands = t.operation(ops)
	}
	return t
}

// behindOwn is the thread behind an operation that is not shared.
func (t thread) behindOwn(ops []code.Op, op code.Op) thread {
	t.at++
	switch op.Kind {
	case '!':
		t.failed = t.register == 0
	case '?':
		if t.register == 0 {
			t.at += countPassed(ops, t.at, op.Digit())
		}
	default:
		t.register = reckoned(t.register, op)
	}
	return t
}

// countPassed tells how many operations from a place on are passed over: a
// block's bounds and the row's end keep it from being all that are asked for.
func countPassed(ops []code.Op, from, asked int) int {
	count := 0
	for i := from; i >= 0 && i < len(ops) && count < asked; i++ {
		if ops[i].IsBound() {
			return count
		}
		count++
	}
	return count
}

// reckoned is the register behind an operation; a block's bounds leave it.
func reckoned(register api.Value, op code.Op) api.Value {
	digit := op.Digit()
	switch op.Kind {
	case '+':
		return register + api.Value(digit)
	case '-':
		return register - api.Value(digit)
	case '*':
		return register * api.Value(digit)
	case '^':
		return register ^ api.Value(digit)
	case '<':
		return register << uint(digit)
	}
	return register
}
