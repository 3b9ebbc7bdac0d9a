package interleave_test

import (
	"strings"

	"interleave/api"
)

// model runs a program straight from its text, another way than the program
// does, so that each can be held against the other.
type model struct {
	rows   []*modelThread
	store  map[byte]int16
	events []api.Event
	groups int
}

type modelThread struct {
	rest    string // what the thread has not done yet
	number  int16  // its register
	failed  bool
	begun   int // how many blocks it has begun
	inBlock bool
	group   int // of the block that it is in, if it has stepped in it; else -1
	holds   map[byte]int
}

func newModel(text string) *model {
	m := &model{store: map[byte]int16{}}
	for _, row := range strings.Split(text, "\n") {
		th := &modelThread{rest: row, group: -1, holds: map[byte]int{}}
		th.advance()
		m.rows = append(m.rows, th)
	}
	return m
}

func width(kind byte) int {
	if strings.IndexByte("![]", kind) >= 0 {
		return 1
	}
	return 2
}

func (th *modelThread) fail() {
	th.failed = true
	th.rest = ""
}

func (th *modelThread) advance() {
	for th.rest != "" && !strings.Contains("rwlu", th.rest[:1]) {
		op := th.rest[:width(th.rest[0])]
		th.rest = th.rest[len(op):]
		if op[0] == '[' || op[0] == ']' {
			th.inBlock = op[0] == '['
			th.group = -1
			if th.inBlock {
				th.begun++
			}
			continue
		}
		if op == "!" {
			if th.number == 0 {
				th.fail()
			}
			continue
		}
		th.alone(op[0], int(op[1]-'0'))
	}
}

func (th *modelThread) alone(kind byte, digit int) {
	n := int(th.number)
	switch kind {
	case '+':
		n += digit
	case '-':
		n -= digit
	case '*':
		n *= digit
	case '^':
		n ^= digit
	case '<':
		for range digit {
			n *= 2
		}
	case '?':
		for n == 0 && digit > 0 && th.rest != "" && th.rest[0] != '[' && th.rest[0] != ']' {
			th.rest = th.rest[width(th.rest[0]):]
			digit--
		}
	}
	th.number = int16(n & 0xffff)
}

func (m *model) waits(i int) bool {
	if !strings.HasPrefix(m.rows[i].rest, "l") {
		return false
	}
	for j, other := range m.rows {
		if j != i && other.holds[m.rows[i].rest[1]] > 0 {
			return true
		}
	}
	return false
}

func (m *model) canStep(i int) bool {
	return i >= 0 && i < len(m.rows) && m.rows[i].rest != "" && !m.waits(i)
}

func (m *model) ready() []int {
	var l []int
	for i := range m.rows {
		if m.canStep(i) {
			l = append(l, i)
		}
	}
	return l
}

func (m *model) result() api.Result {
	r := api.Result{End: api.Done}
	for i, name := range []byte("abcd") {
		r.Store[i] = api.Value(m.store[name])
	}
	open, stuck, failed := false, false, false
	for i, th := range m.rows {
		open = open || m.canStep(i)
		stuck = stuck || m.waits(i)
		failed = failed || th.failed
	}
	if open {
		r.End = api.Open
	} else if stuck {
		r.End = api.Stuck
	} else if failed {
		r.End = api.Failed
	}
	return r
}

func (m *model) step(i int) {
	th := m.rows[i]
	kind, name := th.rest[0], th.rest[1]
	e := api.Event{Thread: i, Kind: kind, Name: name, Block: api.NoBlock, Group: m.groups}
	if th.inBlock {
		e.Block = th.begun - 1
		if th.group >= 0 {
			e.Group = th.group
		}
		th.group = e.Group
	}
	if e.Group == m.groups {
		m.groups++
	}
	th.rest = th.rest[2:]
	e.Value = api.Value(m.do(th, kind, name))
	m.events = append(m.events, e)
	th.advance()
}

func (m *model) do(th *modelThread, kind, name byte) int16 {
	switch kind {
	case 'r':
		th.number = m.store[name]
		return th.number
	case 'w':
		m.store[name] = th.number
		return th.number
	case 'l':
		th.holds[name]++
	case 'u':
		if th.holds[name] == 0 {
			th.fail()
			return -1
		}
		th.holds[name]--
	}
	return int16(th.holds[name])
}
