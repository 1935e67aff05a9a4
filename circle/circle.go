// Package circle finds the circles of a schedule, and tells of each whether a schedule leads to its ring (P10).
package circle

import (
	"embrace/api"
	"embrace/trace"
)

// Reports answers the first most circles of a schedule, and whether there are more.
func Reports(l trace.Trace, most int) ([]api.Report, bool) {
	asks := l.Asks()
	circles, more := find(asks, most)
	reports := []api.Report{}
	for k := 0; k < len(circles); k++ {
		reports = append(reports, reportOf(l, asks, circles[k]))
	}
	return reports, more
}

func reportOf(l trace.Trace, asks []api.Ask, c chain) api.Report {
	numbers := []int{}
	ring := []api.Ask{}
	for i := 0; i < c.length; i++ {
		numbers = append(numbers, c.asks[i])
		ring = append(ring, asks[c.asks[i]])
	}
	verdict, schedule := judge(l, ring)
	return api.Report{Asks: numbers, Verdict: verdict, Schedule: schedule}
}

// judge answers what is said of a circle, and the schedule if it is Sure.
func judge(l trace.Trace, ring []api.Ask) (int, string) {
	if gated(ring) {
		return api.Gated, ""
	}
	if ordered(l, ring) {
		return api.Ordered, ""
	}
	ahead := listAhead(l, ring)
	needed := l.Close(ahead)
	if bound(ring, needed) {
		return api.Bound, ""
	}
	return api.Sure, l.Schedule(needed)
}

func gated(ring []api.Ask) bool {
	for i := 0; i < len(ring); i++ {
		for k := 0; k < i; k++ {
			if share(ring[i].Holds, ring[k].Holds) {
				return true
			}
		}
	}
	return false
}

func ordered(l trace.Trace, ring []api.Ask) bool {
	for i := 0; i < len(ring); i++ {
		for k := 0; k < len(ring); k++ {
			if comesAhead(l, ring[i], ring[k]) {
				return true
			}
		}
	}
	return false
}

// comesAhead looks only at the last event of a thread that waits: what must come ahead of one of its events must come ahead of the last. An ask x that waits is no event, and so comes ahead of nothing.
func comesAhead(l trace.Trace, x api.Ask, y api.Ask) bool {
	if y.At != trace.Waiting {
		return l.Before(x.At, y.At)
	}
	last, ok := l.LastAhead(y)
	return ok && l.Before(x.At, last)
}

// listAhead answers the events by which the threads of a circle come to their asks.
func listAhead(l trace.Trace, ring []api.Ask) []int {
	events := []int{}
	for i := 0; i < len(ring); i++ {
		last, ok := l.LastAhead(ring[i])
		if ok {
			events = append(events, last)
		}
	}
	return events
}

// bound tells whether an ask is among the events that lead to the ring: then its thread has gone on by then. An ask that waits is no event, and among none.
func bound(ring []api.Ask, events []int) bool {
	for i := 0; i < len(ring); i++ {
		for k := 0; k < len(events); k++ {
			if ring[i].At == events[k] {
				return true
			}
		}
	}
	return false
}
