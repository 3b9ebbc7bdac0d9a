package interleave_test

import (
	"regexp"
	"strings"
	"testing"

	"interleave/api"
	"interleave/interleave"
)

// P3: the document's own words for a program text, told another way than the
// program tells them.
var programText = func() *regexp.Regexp {
	row := `([rw][a-d]|[lu][PQ]|[-+*^<][0-9]|\?[1-9]|!)*`
	thread := row + `(\[` + row + `\]` + row + `)*`
	return regexp.MustCompile(`\A` + thread + `(\n` + thread + `){0,3}\z`)
}()

// begins tells whether some program text begins with a text: one that is cut
// short lacks at most an operation's second byte and a `]`.
func begins(text string) bool {
	for _, name := range []string{"", "a", "P", "1"} {
		for _, end := range []string{"", "]"} {
			if programText.MatchString(text + name + end) {
				return true
			}
		}
	}
	return false
}

func placeOf(text string) int {
	for n := range len(text) {
		if !begins(text[:n+1]) {
			return n
		}
	}
	return len(text)
}

func checkForm(t *testing.T, text string) {
	t.Helper()
	p, e, at := interleave.New(text)
	if programText.MatchString(text) {
		if p == nil || e != api.OK || at != 0 {
			t.Errorf("P3: New(%q) = %v, %d, %d, want a Program", text, p != nil, e, at)
		} else if n := p.Threads(); n != strings.Count(text, "\n")+1 {
			t.Errorf("P4: %q: Threads() = %d", text, n)
		}
		return
	}
	if want := placeOf(text); p != nil || e != api.ErrForm || at != want {
		t.Errorf("P3: New(%q) = %v, %d, %d, want ErrForm at %d", text, p != nil, e, at, want)
	}
}

func checkAllForms(t *testing.T, beginning, bytes string, length int) {
	checkForm(t, beginning)
	if length == 0 {
		return
	}
	for i := range len(bytes) {
		checkAllForms(t, beginning+bytes[i:i+1], bytes, length-1)
	}
}

func TestNewAllShortTexts(t *testing.T) {
	checkAllForms(t, "", "ralP?01+![]\n", 4)
	checkAllForms(t, "", "ra[]\n", 7)
}

func TestNewEveryByte(t *testing.T) {
	var bytes strings.Builder
	for b := range 256 {
		bytes.WriteByte(byte(b))
	}
	for _, beginning := range []string{"", "ra", "[", "\n\n\n", "[ra]"} {
		checkAllForms(t, beginning, bytes.String(), 1)
	}
	for _, kind := range "rwlu+-*^<?![]" {
		checkAllForms(t, string(kind), bytes.String(), 1)
		checkAllForms(t, "["+string(kind), bytes.String(), 1)
	}
}

func TestNewExamples(t *testing.T) {
	for _, text := range []string{"ra\nwb", "", "[ra+1wa]\n[ra+1wa]", "+1wb\n[rara]\nrb!", "-1<9<7!"} {
		if p, e, at := interleave.New(text); p == nil || e != api.OK || at != 0 {
			t.Errorf("P3: New(%q) = %v, %d, %d, want a Program", text, p != nil, e, at)
		}
	}
	for _, c := range []struct {
		text string
		at   int
	}{{"r", 1}, {"re", 1}, {"ra]", 2}, {"[ra", 3}, {"[[", 1}, {"[\n]", 1}, {"?0", 1}, {"+", 1}, {"\n\n\n\n", 3}} {
		if p, e, at := interleave.New(c.text); p != nil || e != api.ErrForm || at != c.at {
			t.Errorf("P3: New(%q) = %v, %d, %d, want ErrForm at %d", c.text, p != nil, e, at, c.at)
		}
	}
}

func TestNewBounds(t *testing.T) {
	for _, c := range []struct {
		name, text string
		want       api.Errno
		at         int
	}{
		{"100 bytes", strings.Repeat("+1", 50), api.OK, 0},
		{"101 bytes", strings.Repeat("!", 101), api.ErrLong, 0},
		{"101 bytes, no program text", strings.Repeat("x", 101), api.ErrLong, 0},
		{"101 bytes, too many steps", strings.Repeat("ra", 50) + "!", api.ErrLong, 0},
		{"a million bytes", strings.Repeat("\n", 1000000), api.ErrLong, 0},
		{"100 bytes, the last one wrong", strings.Repeat("!", 99) + "]", api.ErrForm, 99},
		{"100 bytes, cut short", strings.Repeat("!", 99) + "r", api.ErrForm, 100},
		{"10 steps", "rawblPuQra\nrawblPuQra", api.OK, 0},
		{"10 steps and others", "[rawblPuQrc]\n[rawblPuQrd]\n+1!?3*2<4", api.OK, 0},
		{"11 steps", "[rawblPuQrc]\n[rawblPuQrd]\nra", api.ErrMany, 0},
		{"11 steps that are passed over", "?9rararararararararara?2rara", api.ErrMany, 0},
		{"11 steps, no program text", strings.Repeat("ra", 11) + "x", api.ErrForm, 22},
		{"11 steps, cut short", strings.Repeat("ra", 11) + "[", api.ErrForm, 23},
		{"50 steps", strings.Repeat("uQ", 50), api.ErrMany, 0},
	} {
		p, e, at := interleave.New(c.text)
		if e != c.want || at != c.at || (p != nil) != (c.want == api.OK) {
			t.Errorf("P3: New of %s = %v, %d, %d, want %d, %d", c.name, p != nil, e, at, c.want, c.at)
		}
	}
}
