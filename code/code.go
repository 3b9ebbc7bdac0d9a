// Package code: a program text that was read, as rows of operations.
package code

// Op is an operation.
type Op struct {
	Kind  byte // its first byte
	Name  byte // its second byte, or 0 if it has none
	Block int  // the block in which it stands, or api.NoBlock
}

// Program is what a program text says: of each thread its operations.
type Program struct {
	Threads [][]Op
}

// Thread answers the operations of a thread. A number that is no thread's
// answers none: it is then like a thread that has ended, and cannot step.
func (p Program) Thread(number int) []Op {
	if number < 0 || number >= len(p.Threads) {
		return nil
	}
	return p.Threads[number]
}

// CountShared tells how many shared operations stand in a program.
func (p Program) CountShared() int {
	count := 0
	for _, ops := range p.Threads {
		for _, op := range ops {
			if op.IsShared() {
				count++
			}
		}
	}
	return count
}

// IsShared tells whether an operation is a READ, WRITE, LOCK or UNLOCK.
func (o Op) IsShared() bool {
	switch o.Kind {
	case 'r', 'w', 'l', 'u':
		return true
	}
	return false
}

// IsBound tells whether an operation is the beginning or the end of a block.
func (o Op) IsBound() bool {
	return o.Kind == '[' || o.Kind == ']'
}

// Variable is the place of the operation's variable in an api.Store. It is one
// for every byte, so that it can be an index without a test.
func (o Op) Variable() int {
	switch o.Name {
	case 'b':
		return 1
	case 'c':
		return 2
	case 'd':
		return 3
	}
	return 0
}

// Lock is the number of the operation's lock. It is one for every byte, so
// that it can be an index without a test.
func (o Op) Lock() int {
	if o.Name == 'Q' {
		return 1
	}
	return 0
}

// Digit is the number that stands in the operation.
func (o Op) Digit() int {
	if o.Name < '0' || o.Name > '9' {
		return 0
	}
	return int(o.Name) - '0'
}
