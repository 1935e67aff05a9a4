package embrace_test

import (
	"math"
	"math/rand"
	"slices"
	"strings"
	"testing"

	"embrace/api"
	"embrace/embrace"
)

const pairRun = "001111022220"

func ask(thread, place int, lock, holds string, at int) api.Ask {
	return api.Ask{Thread: thread, Place: place, Lock: lock, Holds: holds, At: at}
}

func TestP7Asks(t *testing.T) {
	for _, c := range []struct {
		text, schedule string
		want           []api.Ask
	}{
		{"", "", nil}, {"ab", "", nil}, {pair, "00", nil}, {"a;a", "0", []api.Ask{ask(0, 0, "a", "", 0)}},
		{pair, pairRun, []api.Ask{ask(1, 0, "a", "", 2), ask(1, 1, "b", "a", 3), ask(2, 0, "b", "", 7), ask(2, 1, "a", "b", 8)}},
		{pair, "0012", []api.Ask{ask(1, 0, "a", "", 2), ask(2, 0, "b", "", 3), ask(1, 1, "b", "a", -1), ask(2, 1, "a", "b", -1)}},
		{"f>1>2;fa;bf", "0002", []api.Ask{ask(0, 0, "f", "", 0), ask(2, 0, "b", "", 3), ask(1, 0, "f", "", -1), ask(2, 1, "f", "b", -1)}},
		{"fcab.BeE", "000000", []api.Ask{ask(0, 0, "f", "", 0), ask(0, 1, "c", "f", 1), ask(0, 2, "a", "cf", 2), ask(0, 3, "b", "acf", 3)}},
		{"!u?u2abc", "000", []api.Ask{ask(0, 4, "c", "", 2)}},
		// A thread at a fault, or one that waits for another's end, wants no lock.
		{"aa", "0", []api.Ask{ask(0, 0, "a", "", 0)}}, {"a<0", "0", []api.Ask{ask(0, 0, "a", "", 0)}},
		// The lock is free again, so the thread may move and wants nothing.
		{"aA>1;a", "000", []api.Ask{ask(0, 0, "a", "", 0)}},
	} {
		asks, errno := embrace.Asks(c.text, c.schedule)
		if errno != api.OK || !slices.Equal(asks, c.want) {
			t.Errorf("P7: Asks(%q, %q) = %+v, %d, want %+v", c.text, c.schedule, asks, errno, c.want)
		}
	}
}

func TestP8Before(t *testing.T) {
	for _, c := range []struct {
		text, schedule string
		i, j           int
		want           bool
	}{
		{pair, pairRun, 1, 8, true}, {pair, pairRun, 3, 8, false}, {pair, pairRun, 3, 6, true}, {pair, pairRun, 6, 8, false},
		{pair, pairRun, 0, 8, true}, {pair, pairRun, 0, 11, true}, {pair, pairRun, 1, 2, false}, {pair, pairRun, 10, 11, true},
		// No event is ahead of itself or of an earlier one.
		{pair, pairRun, 0, 0, false}, {pair, pairRun, 11, 11, false}, {pair, pairRun, 3, 2, false}, {pair, pairRun, 8, 1, false}, {pair, pairRun, 11, 0, false},
		// Locks and flags bind no events.
		{">1aA;aA", "00011", 2, 3, false}, {">1!u;?u1.", "001", 1, 2, false}, {">1>2;!u;~u", "0012", 2, 3, false},
		// A thread without instructions: what starts it must come ahead of who waits for its end, and what lies ahead of that.
		{">2<1;;.>1", "0220", 2, 3, true}, {">2<1;;.>1", "0220", 1, 3, true}, {">1>3<2;>2;;.", "00130", 2, 4, true}, {">1>3<2;>2;;.", "00130", 3, 4, false},
		// Waiting for a thread that started another does not wait for that other.
		{">1<1;>2;.", "0120", 2, 3, false}, {">1<1;>2;.", "0120", 1, 3, true}, {">1<1;>2<2;.", "01210", 2, 4, true},
		// What comes behind a start, in the thread that starts, is free.
		{">1.;.", "001", 1, 2, false}, {">1.;.", "001", 0, 2, true}, {">1.;.", "010", 1, 2, false}, {">1.;.", "010", 0, 2, true},
		// Both wait for one thread; neither for the other.
		{">1>2<1;.;<1", "00102", 3, 4, false}, {">1>2<1;.;<1", "00102", 2, 4, true}, {">1>2<1;.;<1", "00102", 2, 3, true},
	} {
		before, errno := embrace.Before(c.text, c.schedule, c.i, c.j)
		if before != c.want || errno != api.OK {
			t.Errorf("P8: Before(%q, %q, %d, %d) = %v, %d, want %v", c.text, c.schedule, c.i, c.j, before, errno, c.want)
		}
	}
}

func TestP9Close(t *testing.T) {
	for _, c := range []struct {
		text, schedule string
		events, want   []int
	}{
		{pair, pairRun, nil, nil}, {pair, "", nil, nil}, {"", "", []int{}, nil}, {pair, pairRun, []int{0}, []int{0}},
		{pair, pairRun, []int{2, 7}, []int{0, 1, 2, 7}}, {pair, pairRun, []int{8}, []int{0, 1, 7, 8}}, {pair, pairRun, []int{2, 8}, []int{0, 1, 2, 3, 4, 5, 7, 8}},
		{pair, pairRun, []int{7, 2, 7, 7, 2}, []int{0, 1, 2, 7}}, {pair, pairRun, []int{8, 2}, []int{0, 1, 2, 3, 4, 5, 7, 8}},
		// The last event that sets or clears the flag, and it alone, whatever it does.
		{">1>2;!u.;?u1.a", "001122", []int{5}, []int{0, 1, 2, 4, 5}}, {">1>2>3;!u;~u;?u1.", "000123", []int{5}, []int{0, 1, 2, 4, 5}}, {">1>2>3;!u;!u;?u1.", "000123", []int{5}, []int{0, 1, 2, 4, 5}}, {">1>2;!u;?u1.", "0021", []int{2}, []int{0, 1, 2}}, {">1>2;!v;?u1.", "0012", []int{3}, []int{0, 1, 3}}, {">1>2;?u1.;?u1.", "0012", []int{3}, []int{0, 1, 3}},
		// Who sets a flag needs no earlier change of it.
		{">1>2;!u;~u", "0012", []int{3}, []int{0, 1, 3}},
		// A lock that is taken by one event of the set and later by another is given back between them.
		{">1aA;aA", "00011", []int{3}, []int{0, 3}}, {">1aA;aA", "00011", []int{1, 3}, []int{0, 1, 2, 3}}, {">1aA;aA", "00011", []int{1}, []int{0, 1}}, {">1aA;bB", "00011", []int{1, 3}, []int{0, 1, 3}},
		// Also if the first event of all takes it.
		{"a>1A;a", "0001", []int{3}, []int{0, 1, 2, 3}},
		// The first giving back behind the event, and not a later one.
		{">1aAaA;aA", "0000011", []int{1, 5}, []int{0, 1, 2, 5}}, {">1aAaA;aA", "0000011", []int{3, 5}, []int{0, 1, 2, 3, 4, 5}},
		// Of three events that take it all but the last need its giving back.
		{">1>2aA;aA;aA", "0000112", []int{2, 4, 6}, []int{0, 1, 2, 3, 4, 5, 6}},
		// One need brings the next: giving back at 7, the flag asked for at 6, its change at 4, the lock taken at 3; and that lock is given back at 8 if event 10 takes it.
		{">1>2>3;a?u1.A;b!uB;ab", "00022111233", []int{5, 9}, []int{0, 1, 2, 3, 4, 5, 6, 7, 9}}, {">1>2>3;a?u1.A;b!uB;ab", "00022111233", []int{10, 5}, []int{0, 1, 2, 3, 4, 5, 6, 7, 8, 9, 10}},
	} {
		closed, errno := embrace.Close(c.text, c.schedule, c.events)
		if errno != api.OK || !slices.Equal(closed, c.want) {
			t.Errorf("P9: Close(%q, %q, %v) = %v, %d, want %v", c.text, c.schedule, c.events, closed, errno, c.want)
		}
	}
}

func TestP7P8P9NoSchedule(t *testing.T) {
	for _, c := range [][2]string{
		{pair, "1"}, {pair, "02"}, {pair, "5"}, {pair, "/"}, {pair, "0 "}, {pair, "\xff"}, {pair, "00121"}, {pair, pairRun + "0"}, {pair, strings.Repeat("0", 1000000)}, {pair, strings.Repeat("0", 61)},
		{"", "0"}, {"aa", "00"}, {"A", "0"}, {"<0", "0"}, {"a>1;a", "001"}, {"!u?u9...", "000"},
	} {
		asks, e := embrace.Asks(c[0], c[1])
		if asks != nil || e != api.ErrSchedule {
			t.Errorf("P7: Asks(%q, %.20q) = %v, %d", c[0], c[1], asks, e)
		}
		for _, i := range []int{-1, 0, 1000} {
			before, f := embrace.Before(c[0], c[1], i, i+1)
			closed, g := embrace.Close(c[0], c[1], []int{i})
			if before || f != api.ErrSchedule || closed != nil || g != api.ErrSchedule {
				t.Errorf("P8, P9: of %q and %.20q: %v, %d; %v, %d", c[0], c[1], before, f, closed, g)
			}
		}
	}
}

func TestP8P9NumbersOfNoEvent(t *testing.T) {
	for _, i := range []int{math.MinInt, -2, -1, 12, 13, 59, 60, 61, math.MaxInt} {
		first, e := embrace.Before(pair, pairRun, i, 11)
		second, f := embrace.Before(pair, pairRun, 0, i)
		both, g := embrace.Before(pair, pairRun, i, i)
		if first || second || both || e != api.ErrArg || f != api.ErrArg || g != api.ErrArg {
			t.Errorf("P8: with %d: %v, %d; %v, %d; %v, %d", i, first, e, second, f, both, g)
		}
		for _, events := range [][]int{{i}, {i, 0}, {0, i}, {0, i, 11}, {i, i}} {
			if closed, errno := embrace.Close(pair, pairRun, events); closed != nil || errno != api.ErrArg {
				t.Errorf("P9: Close(.., %v) = %v, %d", events, closed, errno)
			}
		}
	}
	_, e := embrace.Before(pair, "", 0, 0)
	_, f := embrace.Close(pair, "", []int{0})
	if e != api.ErrArg || f != api.ErrArg {
		t.Errorf("P8, P9: an empty schedule has an event: %d, %d", e, f)
	}
}

// TestP7P8P9Drawn lays drawn schedules beside what the words of the document tell of them.
func TestP7P8P9Drawn(t *testing.T) {
	r := rand.New(rand.NewSource(7))
	var seen [reasons]int
	wants, ordered, free := 0, 0, 0
	for range 2000 {
		text := drawTold(r)
		schedule := drawSchedule(r, text)
		l := newTale(text, schedule)
		if asks, errno := embrace.Asks(text, schedule); errno != api.OK || !slices.Equal(asks, l.asks) {
			t.Fatalf("P7: Asks(%q, %q) = %+v, %d, want %+v", text, schedule, asks, errno, l.asks)
		}
		if n := len(l.asks); n > 0 && l.asks[n-1].At < 0 {
			wants++
		}
		for i := range schedule {
			for j := range schedule {
				before, errno := embrace.Before(text, schedule, i, j)
				if before != l.ahead[i][j] || errno != api.OK {
					t.Fatalf("P8: Before(%q, %q, %d, %d) = %v, %d", text, schedule, i, j, before, errno)
				}
				if before && schedule[i] != schedule[j] {
					ordered++
				} else if i < j && !before {
					free++
				}
			}
		}
		for range 5 {
			events := drawEvents(r, schedule)
			closed, errno := embrace.Close(text, schedule, events)
			if want := l.close(events, &seen); errno != api.OK || !slices.Equal(closed, want) {
				t.Fatalf("P9: Close(%q, %q, %v) = %v, %d, want %v", text, schedule, events, closed, errno, want)
			}
		}
	}
	if wants < 150 || ordered < 3000 || free < 3000 || slices.Min(seen[:]) < 300 {
		t.Errorf("the drawn schedules try too little: %d, %d, %d, %v", wants, ordered, free, seen)
	}
}

// TestP9LeastOfAllClosedSets tries all sets of the events of short schedules.
func TestP9LeastOfAllClosedSets(t *testing.T) {
	r := rand.New(rand.NewSource(9))
	for range 400 {
		text := drawTold(r)
		schedule := drawSchedule(r, text)
		schedule = schedule[:min(len(schedule), 11)]
		events := drawEvents(r, schedule)
		want := newTale(text, schedule).leastOfAll(events)
		closed, errno := embrace.Close(text, schedule, events)
		if errno != api.OK || !slices.Equal(closed, want) {
			t.Fatalf("P9: Close(%q, %q, %v) = %v, %d, want %v", text, schedule, events, closed, errno, want)
		}
	}
}

// TestP9ClosedSetsAreSchedules: the moves of a closed set are a schedule, and do what they did before (P11 says so, and callers lean on it).
func TestP9ClosedSetsAreSchedules(t *testing.T) {
	r := rand.New(rand.NewSource(11))
	for range 3000 {
		text := drawTold(r)
		schedule := drawSchedule(r, text)
		events := drawEvents(r, schedule)
		closed, _ := embrace.Close(text, schedule, events)
		short := ""
		for _, i := range closed {
			short += schedule[i : i+1]
		}
		if _, errno := embrace.Replay(text, short); errno != api.OK {
			t.Fatalf("P11: of %q: %q of %q is no schedule: %d", text, short, schedule, errno)
		}
		whole, part := newTale(text, schedule), newTale(text, short)
		for k, i := range closed {
			if part.events[k] != whole.events[i] {
				t.Fatalf("P11: of %q: event %d of %q was event %d of %q: %v, before %v", text, k, short, i, schedule, part.events[k], whole.events[i])
			}
		}
	}
}

func TestP2AsksAndClosedSetsAreFresh(t *testing.T) {
	for _, schedule := range []string{"", "00", "0012", pairRun} {
		some := []int{}
		if schedule != "" {
			some = []int{len(schedule) - 1, 0}
		}
		asks, _ := embrace.Asks(pair, schedule)
		closed, _ := embrace.Close(pair, schedule, some)
		otherAsks, _ := embrace.Asks(pair, schedule)
		otherClosed, _ := embrace.Close(pair, schedule, some)
		wantAsks, wantClosed := slices.Clone(otherAsks), slices.Clone(otherClosed)
		for i := range asks[:cap(asks)] {
			asks[:cap(asks)][i] = ask(77, 77, "x", "x", 77)
		}
		for i := range closed[:cap(closed)] {
			closed[:cap(closed)][i] = 77
		}
		thirdAsks, _ := embrace.Asks(pair, schedule)
		thirdClosed, _ := embrace.Close(pair, schedule, some)
		if !slices.Equal(otherAsks, wantAsks) || !slices.Equal(thirdAsks, wantAsks) || slices.ContainsFunc(otherAsks[:cap(otherAsks)], func(x api.Ask) bool { return x.At == 77 }) {
			t.Errorf("P2: Asks(.., %q): %v, %v, want %v", schedule, otherAsks, thirdAsks, wantAsks)
		}
		if !slices.Equal(otherClosed, wantClosed) || !slices.Equal(thirdClosed, wantClosed) || slices.Contains(otherClosed[:cap(otherClosed)], 77) {
			t.Errorf("P2: Close(.., %q): %v, %v, want %v", schedule, otherClosed, thirdClosed, wantClosed)
		}
	}
}

// TestP2AClosedSetIsNoListHandedIn: a set that is closed already comes out in room of its own.
func TestP2AClosedSetIsNoListHandedIn(t *testing.T) {
	events := []int{0, 1, 2, 7}
	closed, _ := embrace.Close(pair, pairRun, events)
	if !slices.Equal(closed, events) {
		t.Fatalf("P9: %v, want %v", closed, events)
	}
	closed[0] = 77
	if events[0] != 0 {
		t.Errorf("P2: Close answers the list that it was given")
	}
}
