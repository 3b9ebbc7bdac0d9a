package interleave_test

import (
	"fmt"
	"math/rand"
	"slices"
	"testing"

	"interleave/api"
	"interleave/interleave"
)

// hangs has the document's words for two steps that hang on one another.
func hangs(a, b api.Event) bool {
	isLock := func(e api.Event) bool { return e.Kind == 'l' || e.Kind == 'u' }
	switch {
	case a.Thread == b.Thread:
		return true
	case a.Name != b.Name:
		return false
	case isLock(a) && isLock(b):
		return true
	}
	return a.Kind == 'w' || b.Kind == 'w'
}

// aheads tells of each two groups whether the first is ahead of the second.
func aheads(events []api.Event) [][]bool {
	groups := 0
	for _, e := range events {
		groups = max(groups, e.Group+1)
	}
	table := make([][]bool, groups)
	for g := range table {
		table[g] = make([]bool, groups)
	}
	for i, a := range events {
		for _, b := range events[i+1:] {
			if a.Group != b.Group && hangs(a, b) {
				table[a.Group][b.Group] = true
			}
		}
	}
	return table
}

// hasCycle follows ways of any length (Warshall's way), other than the program.
func hasCycle(table [][]bool) bool {
	reach := make([][]bool, len(table))
	for g := range table {
		reach[g] = slices.Clone(table[g])
	}
	for k := range reach {
		for i := range reach {
			for j := range reach {
				reach[i][j] = reach[i][j] || reach[i][k] && reach[k][j]
			}
		}
	}
	for g := range reach {
		if reach[g][g] {
			return true
		}
	}
	return false
}

// arrangedGroups is P9's order of the groups of an atomic schedule.
func arrangedGroups(events []api.Event) []int {
	table := aheads(events)
	thread := map[int]int{}
	for _, e := range events {
		thread[e.Group] = e.Thread
	}
	var order []int
	for len(order) < len(table) {
		best := -1
		for g := range table {
			free := !slices.Contains(order, g)
			for h := range table {
				free = free && (!table[h][g] || slices.Contains(order, h))
			}
			if free && (best < 0 || thread[g] < thread[best]) {
				best = g
			}
		}
		order = append(order, best)
	}
	return order
}

func arranged(events []api.Event) []int {
	var schedule []int
	for _, g := range arrangedGroups(events) {
		for _, e := range events {
			if e.Group == g {
				schedule = append(schedule, e.Thread)
			}
		}
	}
	return schedule
}

func sideBySide(events []api.Event) bool {
	for i, e := range events {
		for j := i + 1; j < len(events); j++ {
			if events[j].Group == e.Group && events[j-1].Group != e.Group {
				return false
			}
		}
	}
	return true
}

// canComeSideBySide tells whether neighbours that do not hang on one another
// can change places till all groups stand side by side: another way to say that
// a schedule is atomic.
func canComeSideBySide(events []api.Event) bool {
	met := map[string]bool{}
	rows := [][]api.Event{events}
	for len(rows) > 0 {
		row := rows[len(rows)-1]
		rows = rows[:len(rows)-1]
		key := fmt.Sprint(row)
		if met[key] {
			continue
		}
		met[key] = true
		if sideBySide(row) {
			return true
		}
		for i := 1; i < len(row); i++ {
			if !hangs(row[i-1], row[i]) {
				next := slices.Clone(row)
				next[i-1], next[i] = row[i], row[i-1]
				rows = append(rows, next)
			}
		}
	}
	return false
}

// isCycle has the document's words for a cycle; none of its groups may be there
// twice (P8).
func isCycle(table [][]bool, l []int) bool {
	for i, g := range l {
		h := l[(i+1)%len(l)]
		if g < 0 || g >= len(table) || h < 0 || h >= len(table) || !table[g][h] || slices.Contains(l[:i], g) {
			return false
		}
	}
	return len(l) >= 2
}

func checkCycle(t *testing.T, p *interleave.Program, text string, schedule []int, events []api.Event) {
	t.Helper()
	l, e := p.Cycle(schedule)
	if e != api.OK || !isCycle(aheads(events), l) {
		t.Errorf("P8: %q: Cycle(%v) = %v, %d, want a cycle", text, schedule, l, e)
		return
	}
	if again, _ := program(t, text).Cycle(slices.Clone(schedule)); !slices.Equal(l, again) {
		t.Errorf("P8: %q: Cycle(%v) = %v, then %v", text, schedule, l, again)
	}
}

func checkArranged(t *testing.T, p *interleave.Program, text string, schedule []int, events []api.Event) {
	t.Helper()
	l, e := p.Arrange(schedule)
	if want := arranged(events); e != api.OK || !slices.Equal(l, want) {
		t.Errorf("P9: %q: Arrange(%v) = %v, %d, want %v", text, schedule, l, e, want)
		return
	}
	moved, e := p.Events(l)
	if e != api.OK || !sideBySide(moved) {
		t.Errorf("P12: %q: Arrange(%v) = %v, whose steps are %v, %d", text, schedule, l, moved, e)
	}
	checkSameBehind(t, p, text, schedule, l)
}

// checkSameBehind: all stands behind the one schedule as behind the other.
func checkSameBehind(t *testing.T, p *interleave.Program, text string, a, b []int) {
	t.Helper()
	first, _ := p.Play(a)
	if second, e := p.Play(b); e != api.OK || first != second {
		t.Errorf("P12: %q: Play(%v) = %v, but Play(%v) = %v, %d", text, a, first, b, second, e)
	}
	ready, _ := p.Ready(a)
	if l, e := p.Ready(b); e != api.OK || !slices.Equal(ready, l) {
		t.Errorf("P12: %q: Ready(%v) = %v, but Ready(%v) = %v, %d", text, a, ready, b, l, e)
	}
}

func checkNeighbours(t *testing.T, p *interleave.Program, text string, schedule []int, events []api.Event) {
	t.Helper()
	for i := 1; i < len(events); i++ {
		if !hangs(events[i-1], events[i]) {
			other := slices.Clone(schedule)
			other[i-1], other[i] = schedule[i], schedule[i-1]
			checkSameBehind(t, p, text, schedule, other)
		}
	}
}

// checkOrder holds Cycle and Arrange of a schedule and of all that begin with
// it against the document's words; within tells whether it begins with one that
// is not atomic.
func checkOrder(t *testing.T, p *interleave.Program, text string, schedule []int, within bool) {
	m := newModel(text)
	for _, i := range schedule {
		m.step(i)
	}
	knotted := hasCycle(aheads(m.events))
	if within && !knotted || sideBySide(m.events) && knotted || canComeSideBySide(m.events) == knotted {
		t.Fatalf("P12: %q: is %v atomic? the tests' own words are at odds", text, schedule)
	}
	if knotted {
		checkCycle(t, p, text, schedule, m.events)
		if l, e := p.Arrange(schedule); l != nil || e != api.ErrKnot {
			t.Errorf("P9: %q: Arrange(%v) = %v, %d, want ErrKnot", text, schedule, l, e)
		}
	} else {
		if l, e := p.Cycle(schedule); l != nil || e != api.OK {
			t.Errorf("P8: %q: Cycle(%v) = %v, %d, want nil", text, schedule, l, e)
		}
		checkArranged(t, p, text, schedule, m.events)
	}
	checkNeighbours(t, p, text, schedule, m.events)
	for i := range m.rows {
		if m.canStep(i) {
			checkOrder(t, p, text, append(slices.Clone(schedule), i), knotted)
		}
	}
}

func TestOrderOfAllRuns(t *testing.T) {
	for _, text := range []string{
		"", "\n\n\n", "!", "!\nra", "uP", "[]\n[]", "[ra]", "[rawa]wa[ra]",
		"[ra+1wa]\n[ra+1wa]", "[lPra+1wauP]\n[lPra+1wauP]", "+1wb\n[rara]\nrb!",
		"[rara]\n[rara]", "[rara]\nwa", "[wawa]\nra", "[wawb]\n[rarb]", "[rawb]\n[rbwc]\n[rcwa]", "[wawb]\n[wbwa]\nrawb",
		"[lPuPlPuP]\nlPuP", "[lPuPlPuP]\nuP", "[lPuP]\n[lPuP]", "[lPuQ]\nuPuQ", "[lPuPlQuQ]\n[lQuQ]",
		"[ra]wa\n[wa]ra", "[rara][wawa]\n[wara]", "ra[wbrb]wa\n[rbwa]rb", "[ra?1wb]rc\n+1[wawb]", "[ra!wb]\n[wa+1wb]",
		"wa\n[rb]\n[wbra]\nwb", "[rarb]\nwa\nwb\nwa",
	} {
		checkOrder(t, program(t, text), text, nil, false)
	}
}

func TestOrderOfRandomRuns(t *testing.T) {
	random := rand.New(rand.NewSource(3))
	for range 600 {
		text := randomText(random, 2+random.Intn(4))
		if len(text) <= api.MaxText {
			checkOrder(t, program(t, text), text, nil, false)
		}
	}
}

func TestOrderExamples(t *testing.T) {
	p := program(t, "[ra+1wa]\n[ra+1wa]")
	knot := list(0, 1, 0, 1)
	if l, e := p.Cycle(knot); e != api.OK || !slices.Equal(l, list(0, 1)) && !slices.Equal(l, list(1, 0)) {
		t.Errorf("P8: Cycle(%v) = %v, %d, want 0, 1 or 1, 0", knot, l, e)
	}
	if l, e := p.Arrange(knot); l != nil || e != api.ErrKnot {
		t.Errorf("P9: Arrange(%v) = %v, %d, want ErrKnot", knot, l, e)
	}
	if l, e := p.Cycle(nil); l != nil || e != api.OK {
		t.Errorf("P8: Cycle of no step = %v, %d, want nil", l, e)
	}
	if l, e := p.Arrange(nil); len(l) != 0 || e != api.OK {
		t.Errorf("P9: Arrange of no step = %v, %d, want none", l, e)
	}
	for _, c := range []struct {
		text           string
		schedule, want []int
	}{
		{"+1wb\n[rara]\nrb!", list(1, 0, 1), list(0, 1, 1)},
		{"ra\n[rbrb]\nwa", list(2, 1, 0, 1), list(1, 1, 2, 0)},
		{"[rarb]\n[rcrd]\n[rbrc]\n[rd]", list(3, 2, 1, 0, 1, 2, 0), list(0, 0, 1, 1, 2, 2, 3)},
		{"[ra]ra[rara]\nrarb[ra]", list(1, 0, 1, 0, 0, 1, 0), list(0, 0, 0, 0, 1, 1, 1)},
		{"wawawawawa\nwawawawawa", list(1, 0, 1, 0, 1, 0, 1, 0, 1, 0), list(1, 0, 1, 0, 1, 0, 1, 0, 1, 0)},
		{"wawbwcwdwa\nwdwcwbwawd", list(1, 0, 1, 0, 1, 0, 1, 0, 1, 0), list(0, 0, 1, 1, 0, 0, 1, 1, 0, 1)},
		{"lPuP\n[uQ]\nlPuP", list(2, 2, 0, 1, 0), list(1, 2, 2, 0, 0)},
	} {
		if l, e := program(t, c.text).Arrange(c.schedule); e != api.OK || !slices.Equal(l, c.want) {
			t.Errorf("P9: %q: Arrange(%v) = %v, %d, want %v", c.text, c.schedule, l, e, c.want)
		}
	}
}

// The greatest programs: ten steps, one group each, or knots of many groups.
func TestOrderOfTenSteps(t *testing.T) {
	random := rand.New(rand.NewSource(4))
	for _, text := range []string{
		"rawbrc\nrbwcra\nrcwa\nwbrd", "[rawb]rc\n[rbwc]rd\n[rcwd]\n[rdwa]", "[wawbwcwdwa]\n[wawbwcwdwa]",
		"[lPuP]ra\n[lPuP]wa\n[lQuQ]\nlQuQ", "[rara]wb\n[wbrb]wa\n[rcwa]\n[wbrc]",
	} {
		p := program(t, text)
		for range 300 {
			m := newModel(text)
			var schedule []int
			for ready := m.ready(); len(ready) > 0; ready = m.ready() {
				schedule = append(schedule, ready[random.Intn(len(ready))])
				m.step(schedule[len(schedule)-1])
			}
			if !hasCycle(aheads(m.events)) {
				checkArranged(t, p, text, schedule, m.events)
				continue
			}
			checkCycle(t, p, text, schedule, m.events)
			if l, e := p.Arrange(schedule); l != nil || e != api.ErrKnot {
				t.Errorf("P9: %q: Arrange(%v) = %v, %d, want ErrKnot", text, schedule, l, e)
			}
		}
	}
}

// P1: a knot in front does not hide a thread that cannot step.
func TestStepComesBeforeKnot(t *testing.T) {
	const text = "[ra+1wa]\n[ra+1wa]"
	p := program(t, text)
	for _, last := range []int{0, 1, 2, -1} {
		checkRefused(t, p, text, list(0, 1, 0, 1, last))
	}
}
