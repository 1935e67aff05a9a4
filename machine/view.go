package machine

import (
	"embrace/api"
	"embrace/program"
)

// View shows a state as callers see it.
func View(p program.Program, s State) api.View {
	threads := []api.Thread{}
	for t := 0; t < p.Threads(); t++ {
		threads = append(threads, viewThread(p, s, t))
	}
	return api.View{Threads: threads, Flags: flagsSet(s)}
}

func viewThread(p program.Program, s State, t int) api.Thread {
	state, waits := Look(p, s, t)
	return api.Thread{State: state, Place: s.places[t], Holds: Holds(s, t), Waits: waits}
}

// Holds answers the locks that thread t has, as letters in their order.
func Holds(s State, t int) string {
	letters := []byte{}
	for lock := 0; lock < program.Locks; lock++ {
		if s.owners[lock] == t {
			letters = append(letters, byte('a'+lock))
		}
	}
	return string(letters)
}

func flagsSet(s State) string {
	letters := []byte{}
	for flag := 0; flag < program.Flags; flag++ {
		if s.flags[flag] {
			letters = append(letters, byte('u'+flag))
		}
	}
	return string(letters)
}
