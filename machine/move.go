package machine

import (
	"embrace/api"
	"embrace/program"
)

// Move answers the state behind a move of thread t, and whether t may move and is not at a fault; else the state as it was.
func Move(p program.Program, s State, t int) (State, bool) {
	state, _ := Look(p, s, t)
	if state != api.Ready {
		return s, false
	}
	step, _, ok := Next(p, s, t)
	if !ok {
		return s, false
	}
	s.places[t]++
	switch step.Kind {
	case program.Take:
		s.owners[step.Which] = t
	case program.Give:
		s.owners[step.Which] = nobody
	case program.Set:
		s.flags[step.Which] = true
	case program.Clear:
		s.flags[step.Which] = false
	case program.Skip:
		if s.flags[step.Which] {
			s.places[t] = skipTo(s.places[t]+step.Count, p.Steps(t))
		}
	case program.Start:
		s.started[step.Which] = true
	}
	return s, true
}

// skipTo keeps a place within the thread: one that has ended stands at its number of steps, however many a skip would leave out.
func skipTo(place int, steps int) int {
	if place > steps {
		return steps
	}
	return place
}

// Follow answers where a schedule leads, and whether it is one of the program.
func Follow(p program.Program, schedule string) (State, bool) {
	s := First()
	for i := 0; i < len(schedule); i++ {
		next, ok := Move(p, s, int(schedule[i])-'0')
		if !ok {
			return State{}, false
		}
		s = next
	}
	return s, true
}
