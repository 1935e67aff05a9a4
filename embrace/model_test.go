package embrace_test

import (
	"math/rand"
	"regexp"
	"strings"

	"embrace/api"
)

// model is another, slow way to run a program, straight from the words of the document: it works on the text of each instruction and shares no code with the program.
type model struct {
	steps   [][]string
	started map[int]bool
	place   map[int]int
	owner   map[byte]int
	flag    map[byte]bool
}

var instruction = regexp.MustCompile(`[.a-fA-F]|[!~][u-z]|\?[u-z][1-9]|[<>][0-9]`)

func newModel(text string) *model {
	m := &model{started: map[int]bool{0: true}, place: map[int]int{}, owner: map[byte]int{}, flag: map[byte]bool{}}
	for _, thread := range strings.Split(text, ";") {
		m.steps = append(m.steps, instruction.FindAllString(thread, -1))
	}
	return m
}

func (m *model) ended(t int) bool { return m.started[t] && m.place[t] == len(m.steps[t]) }

func (m *model) look(t int) (state, waits int) {
	if !m.started[t] {
		return api.Unborn, -1
	}
	if m.ended(t) {
		return api.Ended, -1
	}
	step := m.steps[t][m.place[t]]
	lock := strings.ToLower(step)[0]
	owner, had := m.owner[lock]
	fault := false
	switch {
	case step[0] >= 'a' && step[0] <= 'f':
		if had && owner != t {
			return api.Wants, owner
		}
		fault = had
	case step[0] >= 'A' && step[0] <= 'F':
		fault = !had || owner != t
	case step[0] == '>':
		fault = m.started[int(step[1]-'0')]
	case step[0] == '<':
		if other := int(step[1] - '0'); !m.ended(other) {
			return api.Joins, other
		}
	}
	if fault {
		return api.Faulted, -1
	}
	return api.Ready, -1
}

func (m *model) move(t int) {
	step := m.steps[t][m.place[t]]
	m.place[t]++
	switch {
	case step[0] >= 'a' && step[0] <= 'f':
		m.owner[step[0]] = t
	case step[0] >= 'A' && step[0] <= 'F':
		delete(m.owner, step[0]-'A'+'a')
	case step[0] == '!':
		m.flag[step[1]] = true
	case step[0] == '~':
		delete(m.flag, step[1])
	case step[0] == '?' && m.flag[step[1]]:
		m.place[t] = min(m.place[t]+int(step[2]-'0'), len(m.steps[t]))
	case step[0] == '>':
		m.started[int(step[1]-'0')] = true
	}
}

func (m *model) view() api.View {
	v := api.View{}
	for t := range m.steps {
		state, waits := m.look(t)
		x := api.Thread{State: state, Place: m.place[t], Waits: waits}
		for _, lock := range "abcdef" {
			if owner, had := m.owner[byte(lock)]; had && owner == t {
				x.Holds += string(lock)
			}
		}
		v.Threads = append(v.Threads, x)
	}
	for _, flag := range "uvwxyz" {
		if m.flag[byte(flag)] {
			v.Flags += string(flag)
		}
	}
	return v
}

func (m *model) run(picks string) (string, int) {
	moves := ""
	for {
		movers, waiting := []int{}, false
		for t := range m.steps {
			switch state, _ := m.look(t); state {
			case api.Ready, api.Faulted:
				movers = append(movers, t)
			case api.Wants, api.Joins:
				waiting = true
			}
		}
		if len(movers) == 0 && waiting {
			return moves, api.Stuck
		}
		if len(movers) == 0 {
			return moves, api.Done
		}
		b := 0
		if picks != "" {
			b, picks = int(picks[0]), picks[1:]
		}
		t := movers[b%len(movers)]
		if state, _ := m.look(t); state == api.Faulted {
			return moves, api.Fault
		}
		m.move(t)
		moves += string(rune('0' + t))
	}
}

// drawProgram draws a program in which the threads are mostly started, and locks mostly given back by who has them, so that runs go far.
func drawProgram(r *rand.Rand) string {
	for {
		if text := drawThreads(r); len(text) <= api.MaxText {
			return text
		}
	}
}

func drawThreads(r *rand.Rand) string {
	n := 1 + r.Intn(api.MaxThreads)
	threads := make([]string, n)
	for t := range threads {
		body := []string{}
		if t == 0 {
			for other := 1; other < n; other++ {
				body = append(body, ">"+string(rune('0'+other)))
			}
		}
		held, most := "", r.Intn(api.MaxSteps+1)
		for len(body) < most {
			step := drawStep(r, n, held)
			if step[0] >= 'a' && step[0] <= 'f' {
				held += step
			}
			body = append(body, step)
		}
		threads[t] = strings.Join(body, "")
	}
	return strings.Join(threads, ";")
}

func drawStep(r *rand.Rand, threads int, held string) string {
	flag := string(rune('u' + r.Intn(6)))
	if r.Intn(2) == 0 {
		flag = "u"
	}
	thread := string(rune('0' + r.Intn(threads)))
	switch k := r.Intn(20); {
	case k < 6:
		return string(rune('a' + r.Intn(6)))
	case k < 10 && held != "":
		return strings.ToUpper(string(held[r.Intn(len(held))]))
	case k < 12:
		return "!" + flag
	case k < 13:
		return "~" + flag
	case k < 16:
		return "?" + flag + string(rune('1'+r.Intn(9)))
	case k < 17:
		return "<" + thread
	case k < 18 && r.Intn(3) == 0:
		return ">" + thread
	case k < 19 && r.Intn(3) == 0:
		return string(rune('A' + r.Intn(6)))
	}
	return "."
}

func drawPicks(r *rand.Rand) string {
	b := make([]byte, r.Intn(65))
	for i := range b {
		b[i] = byte(r.Intn(256))
	}
	return string(b)
}
