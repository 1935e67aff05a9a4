// Package machine runs programs: states, moves and schedules (P5, P6).
package machine

import (
	"embrace/api"
	"embrace/program"
)

// nobody stands where a thread's number would: of a free lock, and of a thread that waits for none.
const nobody = -1

// State is a plain value without slices or pointers: an assignment copies it whole, and == tells whether two states are the same.
type State struct {
	started [api.MaxThreads]bool
	places  [api.MaxThreads]int
	owners  [program.Locks]int
	flags   [program.Flags]bool
}

// First answers the state in which every schedule begins.
func First() State {
	s := State{}
	s.started[0] = true
	for lock := 0; lock < program.Locks; lock++ {
		s.owners[lock] = nobody
	}
	return s
}

// Look tells what thread t is at (api.Unborn to api.Faulted), and for which thread it waits. A number that is no thread's is Unborn too: it never moves.
func Look(p program.Program, s State, t int) (int, int) {
	if t < 0 || t >= p.Threads() || !s.started[t] {
		return api.Unborn, nobody
	}
	step, ok := p.Step(t, s.places[t])
	if !ok {
		return api.Ended, nobody
	}
	switch step.Kind {
	case program.Take:
		return lookAtTake(s.owners[step.Which], t)
	case program.Give:
		return faultIf(s.owners[step.Which] != t)
	case program.Start:
		return faultIf(s.started[step.Which])
	case program.Join:
		return lookAtJoin(p, s, step.Which)
	}
	return api.Ready, nobody
}

// Next answers the next step of thread t and its place, and whether there is one.
func Next(p program.Program, s State, t int) (program.Step, int, bool) {
	if t < 0 || t >= p.Threads() {
		return program.Step{}, 0, false
	}
	place := s.places[t]
	step, ok := p.Step(t, place)
	if !ok {
		return program.Step{}, 0, false
	}
	return step, place, true
}

func lookAtTake(owner int, t int) (int, int) {
	if owner == nobody || owner == t {
		return faultIf(owner == t)
	}
	return api.Wants, owner
}

// lookAtJoin tests that the other thread is started, since one without steps stands at its end before that.
func lookAtJoin(p program.Program, s State, other int) (int, int) {
	if s.started[other] && s.places[other] >= p.Steps(other) {
		return api.Ready, nobody
	}
	return api.Joins, other
}

func faultIf(wrong bool) (int, int) {
	if wrong {
		return api.Faulted, nobody
	}
	return api.Ready, nobody
}
