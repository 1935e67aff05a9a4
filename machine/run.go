package machine

import (
	"embrace/api"
	"embrace/program"
)

// Run lets a program run on from a state, and answers the schedule of its moves and how it has ended. It ends, since each move raises a thread's place, and no place goes beyond the thread's steps.
func Run(p program.Program, s State, picks string) (string, int) {
	moves := []byte{}
	for {
		movers := listMovers(p, s)
		if len(movers) == 0 {
			return string(moves), endOf(p, s)
		}
		t := movers[pickAt(picks, len(moves))%len(movers)]
		next, ok := Move(p, s, t)
		if !ok {
			return string(moves), api.Fault
		}
		moves = append(moves, byte('0'+t))
		s = next
	}
}

// listMovers has the threads at a fault too: they may be picked, and that ends the run.
func listMovers(p program.Program, s State) []int {
	movers := []int{}
	for t := 0; t < p.Threads(); t++ {
		state, _ := Look(p, s, t)
		if state == api.Ready || state == api.Faulted {
			movers = append(movers, t)
		}
	}
	return movers
}

func pickAt(picks string, i int) int {
	if i >= len(picks) {
		return 0
	}
	return int(picks[i])
}

// endOf tells how a run has ended in which no thread may move any more.
func endOf(p program.Program, s State) int {
	for t := 0; t < p.Threads(); t++ {
		state, _ := Look(p, s, t)
		if state != api.Unborn && state != api.Ended {
			return api.Stuck
		}
	}
	return api.Done
}
