package trace

import "embrace/program"

// set tells of each event whether it is in. It is a plain value: an assignment copies it whole, and == tells whether it has grown.
type set [maxEvents]bool

// Before tells whether event i must come ahead of event j.
func (l Trace) Before(i int, j int) bool {
	if i < 0 || i >= j || !l.Has(j) {
		return false
	}
	ahead := l.ahead(j)
	return ahead[i]
}

// ahead answers event j and all that must come ahead of it. One way down is enough, since whatever leads to an event is below it.
func (l Trace) ahead(j int) set {
	reached := set{}
	reached[j] = true
	for k := j; k > 0; k-- {
		if reached[k] {
			reached = l.addLeading(reached, k)
		}
	}
	return reached
}

func (l Trace) addLeading(in set, j int) set {
	for i := 0; i < j; i++ {
		if leads(l.events[i], l.events[j]) {
			in[i] = true
		}
	}
	return in
}

// leads tells of an event and a later one whether the first must come ahead without a third between them: what must come ahead at all is what a chain of these leads from.
func leads(first move, then move) bool {
	if first.thread == then.thread || starts(first, then.thread) {
		return true
	}
	if then.step.Kind != program.Join {
		return false
	}
	return first.thread == then.step.Which || starts(first, then.step.Which)
}

func starts(m move, thread int) bool {
	return m.step.Kind == program.Start && m.step.Which == thread
}
