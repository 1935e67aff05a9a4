// Package trace tells what a schedule tells: who asks for which lock, which events must come ahead of others, and which events some others need (P7 to P9; P10 builds on it).
package trace

import (
	"embrace/api"
	"embrace/machine"
	"embrace/program"
)

// maxEvents bounds each schedule, since every event raises a thread's place.
const maxEvents = api.MaxThreads * api.MaxSteps

// move: what a thread does by its step at a place, and the locks that it has just ahead of that.
type move struct {
	thread, place int
	step          program.Step
	holds         string
}

// Trace hides its moves, so that Follow alone makes one: there are never more than maxEvents events.
type Trace struct {
	events []move
	wants  []move // of the threads that want a lock where the schedule leads
}

// Follow answers the trace of a schedule, and whether it is one of the program.
func Follow(p program.Program, schedule string) (Trace, bool) {
	if len(schedule) > maxEvents {
		return Trace{}, false
	}
	events := []move{}
	s := machine.First()
	for i := 0; i < len(schedule); i++ {
		t := int(schedule[i]) - '0'
		next, ok := machine.Move(p, s, t)
		if !ok {
			return Trace{}, false
		}
		events = append(events, moveOf(p, s, t))
		s = next
	}
	return Trace{events: events, wants: listWants(p, s)}, true
}

func moveOf(p program.Program, s machine.State, t int) move {
	step, place, _ := machine.Next(p, s, t)
	return move{thread: t, place: place, step: step, holds: machine.Holds(s, t)}
}

func listWants(p program.Program, s machine.State) []move {
	wants := []move{}
	for t := 0; t < p.Threads(); t++ {
		state, _ := machine.Look(p, s, t)
		if state == api.Wants {
			wants = append(wants, moveOf(p, s, t))
		}
	}
	return wants
}

// Has tells whether i is an event's number.
func (l Trace) Has(i int) bool { return i >= 0 && i < len(l.events) }
