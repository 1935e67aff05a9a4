package embrace_test

import (
	"fmt"
	"maps"
	"math/rand"
	"strings"

	"embrace/api"
	"embrace/embrace"
)

// hunt is how a search ends that is given enough states to look at: at which of them, counted from 1 on, and what it answers.
type hunt struct {
	looked int
	way    string
	what   int
}

// answer is what the search answers with a budget.
func (h hunt) answer(budget int) (string, int) {
	if budget < h.looked {
		return "", api.Short
	}
	return h.way, h.what
}

type place struct {
	m   *model
	way string
}

// newHunt looks at the states as the words of the document tell, by way of the model. With more than most of them it is cut off: then no budget up to most is enough.
func newHunt(text string, most int) hunt {
	return walk(text, most, true)
}

// newTreeHunt looks for a ring in the tree of all schedules, those of one length by their digits: it knows nothing of states that are the same, and its count is one of schedules.
func newTreeHunt(text string, most int) hunt {
	return walk(text, most, false)
}

func walk(text string, most int, once bool) hunt {
	line := []place{{newModel(text), ""}}
	seen := map[string]bool{line[0].m.key(): true}
	for looked := 1; looked <= most; looked++ {
		at := line[0]
		line = line[1:]
		if at.m.hasRing() {
			return hunt{looked, at.way, api.Found}
		}
		for t := range at.m.steps {
			if state, _ := at.m.look(t); state != api.Ready {
				continue
			}
			next := at.m.clone()
			next.move(t)
			if once {
				key := next.key()
				if seen[key] {
					continue
				}
				seen[key] = true
			}
			line = append(line, place{next, at.way + fmt.Sprint(t)})
		}
		if len(line) == 0 {
			return hunt{looked, "", api.None}
		}
	}
	return hunt{looked: most + 1, what: api.Short}
}

func (m *model) clone() *model {
	return &model{steps: m.steps, started: maps.Clone(m.started), place: maps.Clone(m.place), owner: maps.Clone(m.owner), flag: maps.Clone(m.flag)}
}

// key tells states apart: fmt prints maps in the order of their keys, and what is not so (a free lock, a flag that is not set) is not in them.
func (m *model) key() string {
	return fmt.Sprint(m.started, m.place, m.owner, m.flag)
}

// hasRing lets go of all threads that do not want a lock of one that is left, again and again: what is left at last has a ring in it.
func (m *model) hasRing() bool {
	left := map[int]bool{}
	for t := range m.steps {
		left[t] = true
	}
	for before := -1; before != len(left); {
		before = len(left)
		for t := range m.steps {
			if state, owner := m.look(t); state != api.Wants || !left[owner] {
				delete(left, t)
			}
		}
	}
	return len(left) > 0
}

// drawHunted draws programs of all sizes, many of them so small that a search sees all their states.
func drawHunted(r *rand.Rand) string {
	switch r.Intn(8) {
	case 0:
		return drawProgram(r)
	case 1:
		return drawNested(r)
	case 2:
		return drawLoop(r)
	case 3, 4:
		return drawPairs(r)
	}
	return drawFew(r)
}

// drawPairs draws two or three threads that take the same two or three locks in any order, now and then behind a gate or a flag.
func drawPairs(r *rand.Rand) string {
	threads := []string{">1>2"}
	for t := 1; t <= 2; t++ {
		body := ""
		for _, k := range r.Perm(2 + r.Intn(2)) {
			body += string(rune('a' + k))
		}
		body += strings.ToUpper(body)
		switch r.Intn(4) {
		case 0:
			body = "f" + body + "F"
		case 1:
			body = drawFlag(r) + body + drawFlag(r)
		}
		threads = append(threads, body)
	}
	if r.Intn(3) == 0 {
		threads[0] += "abBA"
	}
	return strings.Join(threads, ";")
}

// drawFew draws two or three threads of few instructions each, all about the same locks and flag.
func drawFew(r *rand.Rand) string {
	steps := []string{"a", "b", "a", "b", "A", "B", "!u", "~u", "?u1", "?u2", ".", "<0", "<1", ">2"}
	for {
		threads := []string{">1" + []string{"", ">2", "?u1>2", "a"}[r.Intn(4)], "", ""}
		for t := range threads {
			for range r.Intn(6) {
				threads[t] += steps[r.Intn(len(steps))]
			}
		}
		text := strings.Join(threads, ";")
		if errno, _ := embrace.Check(text); errno == api.OK {
			return text
		}
	}
}
