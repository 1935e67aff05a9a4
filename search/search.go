// Package search looks for a ring by trying all schedules of a program, the short ones first (P12).
package search

import (
	"strconv"

	"embrace/api"
	"embrace/machine"
	"embrace/program"
)

// stop is a state in the line, and the schedule by which it was put there.
type stop struct {
	state    machine.State
	schedule string
}

// line keeps the states that were looked at too, at its head: none of them may be put there again.
type line struct {
	stops []stop
}

// Search looks at no more than budget states, and answers what was found and, if it is a ring, the schedule that leads there.
func Search(p program.Program, budget int) (string, int) {
	l := line{}
	l.put(stop{state: machine.First()})
	for looked := 0; looked < budget; looked++ {
		if looked >= len(l.stops) {
			return "", api.None
		}
		at := l.stops[looked]
		if hasRing(p, at.state) {
			return at.schedule, api.Found
		}
		l.putMoves(p, at)
	}
	if len(l.stops) > budget {
		return "", api.Short
	}
	return "", api.None
}

// putMoves takes the threads by their numbers, so that of the schedules of one length the first by its digits comes first.
func (l *line) putMoves(p program.Program, from stop) {
	for t := 0; t < p.Threads(); t++ {
		next, ok := machine.Move(p, from.state, t)
		if ok {
			longer := from.schedule + strconv.Itoa(t)
			l.put(stop{state: next, schedule: longer})
		}
	}
}

func (l *line) put(s stop) {
	if !l.has(s.state) {
		l.stops = append(l.stops, s)
	}
}

// has begins at the end of the line: most states that come again came shortly before.
func (l *line) has(s machine.State) bool {
	for k := len(l.stops) - 1; k >= 0; k-- {
		if l.stops[k].state == s {
			return true
		}
	}
	return false
}
