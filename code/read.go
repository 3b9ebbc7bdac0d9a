package code

import "interleave/api"

// draft is what has been read of a text.
type draft struct {
	threads [][]Op // those that have been read whole
	ops     []Op   // of the thread that is being read
	blocks  int    // how many blocks this thread has begun
	block   int    // the one that is open, or api.NoBlock
}

// Read reads a program text. If it is none, the answer is false and the length
// of the longest beginning that some program text has too.
func Read(text string) (Program, bool, int) {
	d := draft{block: api.NoBlock}
	at := 0
	for at < len(text) {
		kind := text[at]
		if !d.admits(kind) {
			return Program{}, false, at
		}
		at++
		name := byte(0)
		if takesName(kind) {
			if at == len(text) || !isName(kind, text[at]) {
				return Program{}, false, at
			}
			name = text[at]
			at++
		}
		d.add(kind, name)
	}
	if d.block != api.NoBlock {
		return Program{}, false, len(text)
	}
	d.endThread()
	return Program{Threads: d.threads}, true, 0
}

// admits tells whether some program text goes on with this byte. Whatever it
// admits can be brought to an end by a name and a `]`.
func (d *draft) admits(kind byte) bool {
	switch kind {
	case '\n':
		return d.block == api.NoBlock && len(d.threads)+1 < api.MaxThreads
	case '[':
		return d.block == api.NoBlock
	case ']':
		return d.block != api.NoBlock
	case '!':
		return true
	}
	return takesName(kind)
}

func (d *draft) add(kind, name byte) {
	switch kind {
	case '\n':
		d.endThread()
	case '[':
		d.block = d.blocks
		d.blocks++
		d.ops = append(d.ops, Op{Kind: kind, Block: d.block})
	case ']':
		d.ops = append(d.ops, Op{Kind: kind, Block: d.block})
		d.block = api.NoBlock
	default:
		d.ops = append(d.ops, Op{Kind: kind, Name: name, Block: d.block})
	}
}

func (d *draft) endThread() {
	d.threads = append(d.threads, d.ops)
	d.ops = nil
	d.blocks = 0
}

// takesName tells whether this byte begins an operation of two bytes.
func takesName(kind byte) bool {
	switch kind {
	case 'r', 'w', 'l', 'u', '+', '-', '*', '^', '<', '?':
		return true
	}
	return false
}

// isName tells whether a byte can be the second one of an operation.
func isName(kind, name byte) bool {
	switch kind {
	case 'r', 'w':
		return 'a' <= name && name <= 'd'
	case 'l', 'u':
		return name == 'P' || name == 'Q'
	case '?':
		return '1' <= name && name <= '9'
	}
	return '0' <= name && name <= '9'
}
