package code

import (
	"reflect"
	"testing"

	"interleave/api"
)

func TestReadRows(t *testing.T) {
	p, ok, place := Read("ra[]\n\n+1[wb?2]lQ[uP!]")
	want := [][]Op{
		{{'r', 'a', api.NoBlock}, {'[', 0, 0}, {']', 0, 0}},
		nil,
		{{'+', '1', api.NoBlock}, {'[', 0, 0}, {'w', 'b', 0}, {'?', '2', 0}, {']', 0, 0}, {'l', 'Q', api.NoBlock}, {'[', 0, 1}, {'u', 'P', 1}, {'!', 0, 1}, {']', 0, 1}},
	}
	if !ok || place != 0 || !reflect.DeepEqual(p.Threads, want) {
		t.Errorf("Read = %v, %v, %d, want %v", p.Threads, ok, place, want)
	}
	if n := p.CountShared(); n != 4 {
		t.Errorf("CountShared() = %d, want 4", n)
	}
}

func TestReadNoProgram(t *testing.T) {
	p, ok, place := Read("ra[wb\n")
	if ok || place != 5 || p.Threads != nil {
		t.Errorf("Read = %v, %v, %d, want false at 5", p.Threads, ok, place)
	}
}

func TestThreadOfAnyNumber(t *testing.T) {
	p, _, _ := Read("ra\nwb")
	for _, number := range []int{-1 << 63, -1, 2, 3, 4, 1<<63 - 1} {
		if ops := p.Thread(number); ops != nil {
			t.Errorf("Thread(%d) = %v, want none", number, ops)
		}
	}
	if ops := p.Thread(1); len(ops) != 1 || ops[0].Kind != 'w' {
		t.Errorf("Thread(1) = %v, want wb", ops)
	}
}

func TestNamesOfAnyByte(t *testing.T) {
	for name := range 256 {
		op := Op{Name: byte(name)}
		variable, lock, digit := op.Variable(), op.Lock(), op.Digit()
		if variable < 0 || variable >= api.Variables || lock < 0 || lock >= api.Locks || digit < 0 || digit > 9 {
			t.Errorf("the byte %d is variable %d, lock %d, digit %d", name, variable, lock, digit)
		}
	}
	for i, name := range "abcd" {
		if n := (Op{Name: byte(name)}).Variable(); n != i {
			t.Errorf("variable %c is at %d, want %d", name, n, i)
		}
	}
	for i, name := range "PQ" {
		if n := (Op{Name: byte(name)}).Lock(); n != i {
			t.Errorf("lock %c is %d, want %d", name, n, i)
		}
	}
	for i, name := range "0123456789" {
		if n := (Op{Name: byte(name)}).Digit(); n != i {
			t.Errorf("digit %c is %d, want %d", name, n, i)
		}
	}
}
