// Package order: which groups of a schedule are ahead of which, and how the
// groups can stand one behind the other.
package order

import "interleave/api"

// Arrange lists the threads of a schedule's steps group by group (P9), or
// answers false if the schedule is not atomic.
func Arrange(events []api.Event) ([]int, bool) {
	schedule, knot := takeGroups(events)
	if len(knot) > 0 {
		return nil, false
	}
	return schedule, true
}

// Cycle answers a cycle of a schedule's groups, none twice, or nil if the
// schedule is atomic.
func Cycle(events []api.Event) []int {
	_, knot := takeGroups(events)
	if len(knot) == 0 {
		return nil
	}
	// Each group of the knot has another one ahead of it, so that a way from
	// group to group ahead comes back to one where it has been.
	group := knot[0].Group
	var way []int
	for !contains(way, group) {
		way = append(way, group)
		group, _ = aheadOf(knot, group)
	}
	return backTo(way, group)
}

// takeGroups takes away one group after the other, as P9 says, and answers the
// threads of the steps that it took, and the steps that are left: none, or
// those of groups that each have another one of them ahead.
func takeGroups(events []api.Event) ([]int, []api.Event) {
	var taken []int
	left := events
	next, found := nextFree(left)
	for found {
		var rest []api.Event
		for _, e := range left {
			if e.Group == next {
				taken = append(taken, e.Thread)
			} else {
				rest = append(rest, e)
			}
		}
		left = rest
		next, found = nextFree(left)
	}
	return taken, left
}

// nextFree answers the group that comes next of those that have none ahead of
// them, or false if each has one.
func nextFree(events []api.Event) (int, bool) {
	var next api.Event
	found := false
	for _, e := range events {
		if found && !comesFirst(e, next) {
			continue
		}
		_, behind := aheadOf(events, e.Group)
		if !behind {
			next = e
			found = true
		}
	}
	return next.Group, found
}

// comesFirst tells whether the group of one step comes before that of another,
// if both could come next.
func comesFirst(a, b api.Event) bool {
	if a.Thread != b.Thread {
		return a.Thread < b.Thread
	}
	return a.Group < b.Group
}

// aheadOf answers a group that is ahead of a group, or false if none is.
func aheadOf(events []api.Event, group int) (int, bool) {
	for i, later := range events {
		if later.Group != group {
			continue
		}
		for _, earlier := range events[:i] {
			if earlier.Group != group && hang(earlier, later) {
				return earlier.Group, true
			}
		}
	}
	return 0, false
}

// hang tells whether two steps hang on one another. No lock has a variable's
// name, and of two steps of one lock neither is a READ.
func hang(a, b api.Event) bool {
	if a.Thread == b.Thread {
		return true
	}
	return a.Name == b.Name && (a.Kind != 'r' || b.Kind != 'r')
}

// backTo lists a way from its end back to a group on it: a way goes from each
// group to one that is ahead of it, a cycle the other way round.
func backTo(way []int, group int) []int {
	var cycle []int
	for i := len(way) - 1; i >= 0; i-- {
		cycle = append(cycle, way[i])
		if way[i] == group {
			return cycle
		}
	}
	return cycle
}

func contains(list []int, number int) bool {
	for _, n := range list {
		if n == number {
			return true
		}
	}
	return false
}
