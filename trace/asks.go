package trace

import (
	"embrace/api"
	"embrace/program"
)

// waiting stands where an event's number would, of an ask whose thread has not got the lock.
const waiting = -1

// Asks lists the events that take a lock, then the threads that want one.
func (l Trace) Asks() []api.Ask {
	asks := []api.Ask{}
	for i := 0; i < len(l.events); i++ {
		if l.events[i].step.Kind == program.Take {
			asks = append(asks, askOf(l.events[i], i))
		}
	}
	for i := 0; i < len(l.wants); i++ {
		asks = append(asks, askOf(l.wants[i], waiting))
	}
	return asks
}

func askOf(m move, at int) api.Ask {
	return api.Ask{Thread: m.thread, Place: m.place, Lock: string(rune('a' + m.step.Which)), Holds: m.holds, At: at}
}
