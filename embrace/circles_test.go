package embrace_test

import (
	"math/rand"
	"slices"
	"strings"

	"embrace/api"
	"embrace/embrace"
)

// reports are all circles of a tale, found by trying every list of asks of different threads, and what the words of the document say of each.
func (l *tale) reports() []api.Report {
	all := []api.Report{}
	for _, list := range l.lists(nil) {
		if l.isCircle(list) {
			verdict, schedule := l.judge(list)
			all = append(all, api.Report{Asks: list, Verdict: verdict, Schedule: schedule})
		}
	}
	slices.SortFunc(all, func(x, y api.Report) int {
		if len(x.Asks) != len(y.Asks) {
			return len(x.Asks) - len(y.Asks)
		}
		return slices.Compare(x.Asks, y.Asks)
	})
	return all
}

// lists are all lists of asks of different threads that begin with the given one.
func (l *tale) lists(begin []int) [][]int {
	all := [][]int{begin}
	for k := len(l.asks) - 1; k >= 0; k-- {
		if !slices.ContainsFunc(begin, func(i int) bool { return l.asks[i].Thread == l.asks[k].Thread }) {
			all = append(all, l.lists(append(slices.Clone(begin), k))...)
		}
	}
	return all
}

func (l *tale) isCircle(list []int) bool {
	if len(list) < 2 {
		return false
	}
	locks := ""
	for at, k := range list {
		ask, next := l.asks[k], l.asks[list[(at+1)%len(list)]]
		if ask.Thread < l.asks[list[0]].Thread || strings.Contains(locks, ask.Lock) || !strings.Contains(next.Holds, ask.Lock) {
			return false
		}
		locks += ask.Lock
	}
	return true
}

func (l *tale) judge(list []int) (int, string) {
	held, ends := "", []int{}
	for _, k := range list {
		if strings.ContainsAny(held, l.asks[k].Holds) {
			return api.Gated, ""
		}
		held += l.asks[k].Holds
	}
	for _, x := range list {
		for _, y := range list {
			if l.comesAhead(l.asks[x], l.asks[y]) {
				return api.Ordered, ""
			}
		}
	}
	for _, k := range list {
		ends = append(ends, l.eventsAhead(l.asks[k])...)
	}
	closed := l.close(ends, &[reasons]int{})
	schedule := ""
	for _, i := range closed {
		schedule += string(rune('0' + l.events[i].thread))
	}
	for _, k := range list {
		if slices.Contains(closed, l.asks[k].At) {
			return api.Bound, ""
		}
	}
	return api.Sure, schedule
}

func (l *tale) comesAhead(x, y api.Ask) bool {
	if x.At < 0 {
		return false
	}
	if y.At >= 0 {
		return l.ahead[x.At][y.At]
	}
	return slices.ContainsFunc(l.eventsAhead(y), func(i int) bool { return l.ahead[x.At][i] })
}

// eventsAhead are all events of the thread of an ask ahead of it: a closed set that has the last one has them all.
func (l *tale) eventsAhead(a api.Ask) []int {
	events := []int{}
	for i, e := range l.events {
		if e.thread == a.Thread && (a.At < 0 || i < a.At) {
			events = append(events, i)
		}
	}
	return events
}

// drawNested draws a program whose threads take locks inside others, now and then behind a flag, a gate or another thread's end.
func drawNested(r *rand.Rand) string {
	for {
		n := 3 + r.Intn(3)
		threads := []string{drawStarts(r, n)}
		for len(threads) < n {
			body := ""
			for range 1 + r.Intn(2) {
				body += drawBlock(r, n)
			}
			threads = append(threads, body)
		}
		text := strings.Join(threads, ";")
		if errno, _ := embrace.Check(text); errno == api.OK {
			return text
		}
	}
}

// drawLoop draws a program of five threads, each of which takes a lock and then the next one's, so that a circle of all five is likely.
func drawLoop(r *rand.Rand) string {
	threads := make([]string, api.MaxThreads)
	for at, t := range r.Perm(len(threads)) {
		mine, next := string(rune('a'+at)), string(rune('a'+(at+1)%len(threads)))
		body := mine + next + strings.ToUpper(mine+next)
		switch r.Intn(12) {
		case 0:
			body = "f" + body + "F"
		case 1:
			body = drawFlag(r) + body
		case 2:
			body = body + "!u"
		}
		threads[t] = body
	}
	threads[0] = ">1>2>3>4" + threads[0]
	if r.Intn(8) == 0 {
		threads[0] = ">1<1>2>3>4" + threads[0][8:]
	}
	return strings.Join(threads, ";")
}

// drawStarts draws thread 0, which starts all others, and takes locks of its own if there is room.
func drawStarts(r *rand.Rand, n int) string {
	body := ""
	for t := 1; t < n; t++ {
		digit := string(rune('0' + t))
		body += ">" + digit
		if r.Intn(6) == 0 {
			body += "<" + digit
		}
	}
	if r.Intn(3) == 0 {
		body += drawBlock(r, n)
	}
	return body
}

func drawBlock(r *rand.Rand, n int) string {
	locks := ""
	for _, k := range r.Perm(n)[:2+r.Intn(2)] {
		locks += string(rune('a' + k))
	}
	if r.Intn(5) == 0 {
		locks = "f" + locks
	}
	gives := ""
	for _, k := range r.Perm(len(locks)) {
		gives += strings.ToUpper(locks[k : k+1])
	}
	if r.Intn(4) == 0 {
		locks = locks[:1] + drawFlag(r) + locks[1:]
	}
	if r.Intn(3) == 0 {
		return drawFlag(r) + locks + gives
	}
	return locks + gives
}

func drawFlag(r *rand.Rand) string {
	return []string{"!u", "~u", "?u1.", "?u1.", "!u", "."}[r.Intn(6)]
}
