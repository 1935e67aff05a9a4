package search

import (
	"embrace/api"
	"embrace/machine"
	"embrace/program"
)

// hasRing tells whether some threads of a state hold each other fast.
func hasRing(p program.Program, s machine.State) bool {
	for t := 0; t < p.Threads(); t++ {
		if inRing(p, s, t) {
			return true
		}
	}
	return false
}

// inRing goes from thread t to the one that has the lock it wants, and so on. It makes no more steps than there are threads, since the way may lead into a ring without t. A thread never wants a lock that it has itself, so whatever comes back to t is a ring of two or more.
func inRing(p program.Program, s machine.State, t int) bool {
	at := t
	for k := 0; k < p.Threads(); k++ {
		state, owner := machine.Look(p, s, at)
		if state != api.Wants {
			return false
		}
		if owner == t {
			return true
		}
		at = owner
	}
	return false
}
