package embrace_test

import (
	"math/rand"
	"slices"

	"embrace/api"
	"embrace/embrace"
)

// tale is what a schedule tells, straight from the words of the document, by way of the model.
type tale struct {
	events []happening
	asks   []api.Ask
	ahead  [][]bool // whether the event of the row must come ahead of the one of the column
}

type happening struct {
	thread int
	step   string
}

func newTale(text, schedule string) *tale {
	m, l := newModel(text), &tale{}
	for i, b := range schedule {
		t := int(b - '0')
		step := m.steps[t][m.place[t]]
		if step[0] >= 'a' && step[0] <= 'f' {
			l.asks = append(l.asks, m.ask(t, i))
		}
		l.events = append(l.events, happening{t, step})
		m.move(t)
	}
	for t, x := range m.view().Threads {
		if x.State == api.Wants {
			l.asks = append(l.asks, m.ask(t, -1))
		}
	}
	l.tellAhead()
	return l
}

func (m *model) ask(t, at int) api.Ask {
	return api.Ask{Thread: t, Place: m.place[t], Lock: m.steps[t][m.place[t]], Holds: m.view().Threads[t].Holds, At: at}
}

func (l *tale) tellAhead() {
	n := len(l.events)
	for range n {
		l.ahead = append(l.ahead, make([]bool, n))
	}
	for apart := 1; apart < n; apart++ {
		for i := 0; i+apart < n; i++ {
			j := i + apart
			l.ahead[i][j] = l.direct(l.events[i], l.events[j])
			for k := i + 1; k < j; k++ {
				l.ahead[i][j] = l.ahead[i][j] || l.ahead[i][k] && l.ahead[k][j]
			}
		}
	}
}

func (l *tale) direct(i, j happening) bool {
	start := func(t int) bool { return i.step == ">"+string(rune('0'+t)) }
	if i.thread == j.thread || start(j.thread) {
		return true
	}
	if j.step[0] != '<' {
		return false
	}
	other := int(j.step[1] - '0')
	return i.thread == other || start(other)
}

// Why an event is missing.
const (
	byAhead = iota
	byFlag
	byLock
	reasons
)

// missing answers an event without which a set is not closed, and why (none: -1).
func (l *tale) missing(in []bool) (event, why int) {
	for j := range l.events {
		if !in[j] {
			continue
		}
		for i := range j {
			if l.ahead[i][j] && !in[i] {
				return i, byAhead
			}
			if give := l.gaveBack(i, j); in[i] && give >= 0 && !in[give] {
				return give, byLock
			}
		}
		if i := l.lastChange(j); i >= 0 && !in[i] {
			return i, byFlag
		}
	}
	return -1, reasons
}

func (l *tale) lastChange(j int) int {
	step := l.events[j].step
	if step[0] != '?' {
		return -1
	}
	flag := step[1:2]
	for i := j - 1; i >= 0; i-- {
		if l.events[i].step == "!"+flag || l.events[i].step == "~"+flag {
			return i
		}
	}
	return -1
}

// gaveBack answers the event that gives back what event i takes, if event j takes it too.
func (l *tale) gaveBack(i, j int) int {
	lock := l.events[i].step[0]
	if lock < 'a' || lock > 'f' || l.events[j].step != l.events[i].step {
		return -1
	}
	for k := i + 1; ; k++ {
		if l.events[k] == (happening{l.events[i].thread, string(rune(lock - 'a' + 'A'))}) {
			return k
		}
	}
}

// close adds what is missing until nothing is; seen counts the reasons.
func (l *tale) close(events []int, seen *[reasons]int) []int {
	in := make([]bool, len(l.events))
	for _, i := range events {
		in[i] = true
	}
	for {
		i, why := l.missing(in)
		if i < 0 {
			return numbers(in)
		}
		in[i] = true
		seen[why]++
	}
}

// leastOfAll tries every set of events: the answer is what all the closed ones that have the given events have in common.
func (l *tale) leastOfAll(events []int) []int {
	n := len(l.events)
	common := 1<<n - 1
	for mask := range 1 << n {
		in := make([]bool, n)
		for i := range in {
			in[i] = mask>>i&1 == 1
		}
		if slices.ContainsFunc(events, func(i int) bool { return !in[i] }) {
			continue
		}
		if i, _ := l.missing(in); i < 0 {
			common &= mask
		}
	}
	in := make([]bool, n)
	for i := range in {
		in[i] = common>>i&1 == 1
	}
	return numbers(in)
}

func numbers(in []bool) []int {
	list := []int{}
	for i, is := range in {
		if is {
			list = append(list, i)
		}
	}
	return list
}

// drawSchedule draws a schedule that is mostly a whole run.
func drawSchedule(r *rand.Rand, text string) string {
	schedule, _, _ := embrace.Run(text, drawPicks(r))
	if r.Intn(3) == 0 {
		return schedule[:r.Intn(len(schedule)+1)]
	}
	return schedule
}

func drawEvents(r *rand.Rand, schedule string) []int {
	events := []int{}
	for range r.Intn(5) {
		if len(schedule) > 0 {
			events = append(events, r.Intn(len(schedule)))
		}
	}
	return events
}

// busy are programs whose runs have joins, flags, and locks that go from thread to thread, more often than drawn ones.
var busy = []string{
	pair, ">1>2>3<1<2<3aA;aA!uaA;?u2aAbB~u;b?u1.BbB", ">1>2>3>4;aAbBaAbBaAbB;aAbBaAbBaAbB;bBaAbBaAbBaA;bBaAbBaAbBaA",
	">1<1>2<2>3<3;!uaA~u;!vbB?u1.;?u2aA?v1b.", ">2<1aA<2;aA;>1aAaA", ">1>2>3;abBA!z;?z1.baAB;~z!zaA", ">1!u<1~u>2<2!u;?u1.aA;?u1.aA", "a!u>1>2A~u;?u1.aA?u1.;aAaA",
	">4<3.<4;;;!w!x~w;>3<3?w1.?x1.", ">1a.A<1;a.A>2a.A<2;a.Aa.Aa.A", ">1>2?u1.!u?u1.~u;?u1.!u~u!u;?u1.?u1.?u1.",
}

func drawTold(r *rand.Rand) string {
	if r.Intn(2) == 0 {
		return busy[r.Intn(len(busy))]
	}
	return drawProgram(r)
}
