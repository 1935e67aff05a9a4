package trace

import "embrace/program"

// none stands where an event's number would.
const none = -1

// Close lists the least closed set that has the given events, in rising order. Numbers of no event are left out.
func (l Trace) Close(events []int) []int {
	in := set{}
	for k := 0; k < len(events); k++ {
		if l.Has(events[k]) {
			in[events[k]] = true
		}
	}
	in = l.closure(in)
	return l.list(in)
}

// closure ends, since a set that still grows cannot do so more often than there are events.
func (l Trace) closure(in set) set {
	for {
		grown := l.grow(in)
		if grown == in {
			return in
		}
		in = grown
	}
}

// grow adds what the events of a set need. Once is not always enough: an event that is added may need another above it.
func (l Trace) grow(in set) set {
	for j := len(l.events) - 1; j >= 0; j-- {
		if !in[j] {
			continue
		}
		in = l.addLeading(in, j)
		in = l.addFlagChange(in, j)
		in = l.addGives(in, j)
	}
	return in
}

// addFlagChange adds the event that made the flag what event j sees.
func (l Trace) addFlagChange(in set, j int) set {
	asks := l.events[j].step
	if asks.Kind != program.Skip {
		return in
	}
	for i := j - 1; i >= 0; i-- {
		step := l.events[i].step
		if (step.Kind == program.Set || step.Kind == program.Clear) && step.Which == asks.Which {
			in[i] = true
			return in
		}
	}
	return in
}

// addGives adds, if event j takes a lock, the events that give it back behind the earlier events of the set that take it.
func (l Trace) addGives(in set, j int) set {
	takes := l.events[j].step
	if takes.Kind != program.Take {
		return in
	}
	for i := 0; i < j; i++ {
		if !in[i] || l.events[i].step != takes {
			continue
		}
		give := l.giveBehind(i)
		if give != none {
			in[give] = true
		}
	}
	return in
}

// giveBehind answers the first event by which the thread of event i gives back the lock that event i takes.
func (l Trace) giveBehind(i int) int {
	gives := program.Step{Kind: program.Give, Which: l.events[i].step.Which}
	for k := i + 1; k < len(l.events); k++ {
		if l.events[k].thread == l.events[i].thread && l.events[k].step == gives {
			return k
		}
	}
	return none
}

func (l Trace) list(in set) []int {
	events := []int{}
	for i := 0; i < len(l.events); i++ {
		if in[i] {
			events = append(events, i)
		}
	}
	return events
}

// Schedule answers the numbers of the threads of some events, in the order of the list. Numbers of no event are left out.
func (l Trace) Schedule(events []int) string {
	moves := []byte{}
	for k := 0; k < len(events); k++ {
		if l.Has(events[k]) {
			moves = append(moves, byte('0'+l.events[events[k]].thread))
		}
	}
	return string(moves)
}
