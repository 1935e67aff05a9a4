// Package program reads the text of a program into threads of steps (P3).
package program

import "embrace/api"

// How many locks (a to f) and flags (u to z) there are.
const (
	Locks = 6
	Flags = 6
)

// What a step does.
const (
	Nothing = 0
	Take    = 1 // a lock
	Give    = 2 // a lock, back
	Set     = 3 // a flag
	Clear   = 4 // a flag
	Skip    = 5 // the next steps, if a flag is set
	Start   = 6 // a thread
	Join    = 7 // a thread: wait for its end
)

// Step: what it does (Kind); with which lock, flag or thread, numbered from 0 on (Which); how many steps a Skip leaves out (Count).
type Step struct {
	Kind, Which, Count int
}

// Program hides its threads, so that Read alone makes one: what runs a program may lean on the bounds that Read has tested.
type Program struct {
	threads [][]Step
}

// Threads tells how many threads there are.
func (p Program) Threads() int { return len(p.threads) }

// Steps tells how many steps thread t has (none, if there is no such thread).
func (p Program) Steps(t int) int {
	if t < 0 || t >= len(p.threads) {
		return 0
	}
	return len(p.threads[t])
}

// Step answers the step of thread t at a place, and whether there is one.
func (p Program) Step(t int, place int) (Step, bool) {
	if place < 0 || place >= p.Steps(t) {
		return Step{}, false
	}
	return p.threads[t][place], true
}

// Read answers the program of a text, or the error and its place.
func Read(text string) (Program, api.Errno, int) {
	if len(text) > api.MaxText {
		return Program{}, api.ErrLong, 0
	}
	threads, wrong := readThreads(text)
	if wrong != nowhere {
		return Program{}, api.ErrText, wrong
	}
	extra := firstExtra(threads)
	if extra != nowhere {
		return Program{}, api.ErrMany, extra
	}
	stray := firstStray(text, len(threads))
	if stray != nowhere {
		return Program{}, api.ErrThread, stray
	}
	return Program{threads: threads}, api.OK, 0
}

// firstExtra answers the number of the first thread that is one too many or has too many steps.
func firstExtra(threads [][]Step) int {
	for t := 0; t < len(threads); t++ {
		if t >= api.MaxThreads || len(threads[t]) > api.MaxSteps {
			return t
		}
	}
	return nowhere
}

// firstStray answers the place of the first digit that names no thread. Only a step's first byte is a `>` or `<`, so the text need not be cut into steps again.
func firstStray(text string, threads int) int {
	for at := 0; at < len(text); at++ {
		if text[at] != '>' && text[at] != '<' {
			continue
		}
		digit := byteAt(text, at+1)
		if int(digit)-'0' >= threads {
			return at + 1
		}
	}
	return nowhere
}
