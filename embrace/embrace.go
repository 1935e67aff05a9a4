// Package embrace: programs of several threads, and which of their locks could hold each other fast: see DOC.md.
package embrace

import (
	"embrace/api"
	"embrace/circle"
	"embrace/machine"
	"embrace/program"
	"embrace/search"
	"embrace/trace"
)

// Check tells whether a text is a program (P3).
func Check(text string) (api.Errno, int) {
	_, errno, place := program.Read(text)
	return errno, place
}

// Run runs a program (P5).
func Run(text string, picks string) (string, int, api.Errno) {
	return Resume(text, "", picks)
}

// Resume runs a program on behind a schedule (P5).
func Resume(text string, schedule string, picks string) (string, int, api.Errno) {
	p, s, errno := follow(text, schedule)
	if errno != api.OK {
		return "", 0, errno
	}
	moves, how := machine.Run(p, s, picks)
	return moves, how, api.OK
}

// Replay tells where a schedule leads (P6).
func Replay(text string, schedule string) (api.View, api.Errno) {
	p, s, errno := follow(text, schedule)
	if errno != api.OK {
		return api.View{}, errno
	}
	return machine.View(p, s), api.OK
}

// Asks tells who asks for a lock along a schedule (P7).
func Asks(text string, schedule string) ([]api.Ask, api.Errno) {
	l, errno := traceOf(text, schedule)
	if errno != api.OK {
		return nil, errno
	}
	return l.Asks(), api.OK
}

// Before tells whether an event must come ahead of another (P8).
func Before(text string, schedule string, i int, j int) (bool, api.Errno) {
	l, errno := traceOf(text, schedule)
	if errno != api.OK {
		return false, errno
	}
	if !l.Has(i) || !l.Has(j) {
		return false, api.ErrArg
	}
	return l.Before(i, j), api.OK
}

// Close tells all events without which some events cannot be (P9).
func Close(text string, schedule string, events []int) ([]int, api.Errno) {
	l, errno := traceOf(text, schedule)
	if errno != api.OK {
		return nil, errno
	}
	for k := 0; k < len(events); k++ {
		if !l.Has(events[k]) {
			return nil, api.ErrArg
		}
	}
	return l.Close(events), api.OK
}

// Predict tells the rings of a schedule (P10).
func Predict(text string, schedule string, most int) ([]api.Report, bool, api.Errno) {
	l, errno := traceOf(text, schedule)
	if errno != api.OK {
		return nil, false, errno
	}
	if most < 0 || most > api.MaxReports {
		return nil, false, api.ErrArg
	}
	reports, more := circle.Reports(l, most)
	return reports, more, api.OK
}

// Search looks for a ring by trying all schedules (P12).
func Search(text string, budget int) (string, int, api.Errno) {
	p, errno, _ := program.Read(text)
	if errno != api.OK {
		return "", 0, errno
	}
	if budget < 0 || budget > api.MaxBudget {
		return "", 0, api.ErrArg
	}
	schedule, what := search.Search(p, budget)
	return schedule, what, api.OK
}

// follow answers the program of a text and where a schedule of it leads, or the errors that come first in each call that takes a schedule.
func follow(text string, schedule string) (program.Program, machine.State, api.Errno) {
	p, errno, _ := program.Read(text)
	if errno != api.OK {
		return program.Program{}, machine.State{}, errno
	}
	s, ok := machine.Follow(p, schedule)
	if !ok {
		return program.Program{}, machine.State{}, api.ErrSchedule
	}
	return p, s, api.OK
}

// traceOf answers what a schedule tells of the program of a text, or the same first errors as follow.
func traceOf(text string, schedule string) (trace.Trace, api.Errno) {
	p, errno, _ := program.Read(text)
	if errno != api.OK {
		return trace.Trace{}, errno
	}
	l, ok := trace.Follow(p, schedule)
	if !ok {
		return trace.Trace{}, api.ErrSchedule
	}
	return l, api.OK
}
