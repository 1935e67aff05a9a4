package trace

import (
	"embrace/api"
	"embrace/program"
)

// Waiting stands where an event's number would, of an ask whose thread has not got the lock.
const Waiting = -1

// Asks lists the events that take a lock, then the threads that want one.
func (l Trace) Asks() []api.Ask {
	asks := []api.Ask{}
	for i := 0; i < len(l.events); i++ {
		if l.events[i].step.Kind == program.Take {
			asks = append(asks, askOf(l.events[i], i))
		}
	}
	for i := 0; i < len(l.wants); i++ {
		asks = append(asks, askOf(l.wants[i], Waiting))
	}
	return asks
}

func askOf(m move, at int) api.Ask {
	return api.Ask{Thread: m.thread, Place: m.place, Lock: string(rune('a' + m.step.Which)), Holds: m.holds, At: at}
}

// LastAhead answers the last event of an ask's thread ahead of the ask, and whether there is one. All events of a thread that waits for the lock are ahead.
func (l Trace) LastAhead(a api.Ask) (int, bool) {
	for i := len(l.events) - 1; i >= 0; i-- {
		ahead := a.At == Waiting || i < a.At
		if ahead && l.events[i].thread == a.Thread {
			return i, true
		}
	}
	return 0, false
}
