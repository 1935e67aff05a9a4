package embrace_test

import (
	"math"
	"math/rand"
	"slices"
	"strings"
	"testing"

	"embrace/api"
	"embrace/embrace"
)

func report(verdict int, schedule string, asks ...int) api.Report {
	return api.Report{Asks: asks, Verdict: verdict, Schedule: schedule}
}

func sameReport(x, y api.Report) bool {
	return slices.Equal(x.Asks, y.Asks) && x.Verdict == y.Verdict && x.Schedule == y.Schedule
}

// turns is the schedule of threads that move so many times, one after the other: thread, times, thread, times...
func turns(pairs ...int) string {
	s := ""
	for i := 0; i < len(pairs); i += 2 {
		s += strings.Repeat(string(rune('0'+pairs[i])), pairs[i+1])
	}
	return s
}

type prediction struct {
	text, schedule string
	want           []api.Report
}

func comparePredictions(t *testing.T, list []prediction) {
	t.Helper()
	for _, c := range list {
		all, more, errno := embrace.Predict(c.text, c.schedule, api.MaxReports)
		if errno != api.OK || more || !slices.EqualFunc(all, c.want, sameReport) {
			t.Errorf("P10: Predict(%q, %q, 100) = %+v, %v, %d, want %+v", c.text, c.schedule, all, more, errno, c.want)
		}
	}
}

func TestP10Circles(t *testing.T) {
	comparePredictions(t, []prediction{
		{"", "", nil}, {pair, "", nil}, {pair, "00", nil}, {pair, "0011112", nil},
		{pair, pairRun, []api.Report{report(api.Sure, "0012", 1, 3)}}, {pair, "0012", []api.Report{report(api.Sure, "0012", 2, 3)}},
		// The first ask is of the lowest thread, not the one with the lowest number.
		{pair, turns(0, 2, 2, 4, 1, 4, 0, 2), []api.Report{report(api.Sure, "0021", 3, 1)}}, {pair, "0021", []api.Report{report(api.Sure, "0021", 2, 3)}},
		// Of threads that all differ: one thread alone makes no circle.
		{"abBAbaAB", turns(0, 8), nil}, {">1;abBAbaAB", turns(0, 1, 1, 8), nil},
		// Both take their locks in one order; or hold none then.
		{">1>2;abBA;abBA", turns(0, 2, 1, 4, 2, 4), nil}, {">1>2;aAbB;bBaA", turns(0, 2, 1, 4, 2, 4), nil},
		// Each lock stands in the next ask's Holds, also from the last to the first: two links of three are none.
		{">1>2>3;abBA;bcCB;cdDC", turns(0, 3, 1, 4, 2, 4, 3, 4), nil},
		// Three, four and five threads, any way round.
		{">1>2>3;abBA;bcCB;caAC", turns(0, 3, 1, 4, 2, 4, 3, 4), []api.Report{report(api.Sure, "000123", 1, 3, 5)}},
		{">1>2>3;acCA;baAB;cbBC", turns(0, 3, 1, 4, 2, 4, 3, 4), []api.Report{report(api.Sure, "000123", 1, 5, 3)}},
		{">1>2>3>4;abBA;cdDC;bcCB;daAD", turns(0, 4, 1, 4, 2, 4, 3, 4, 4, 4), []api.Report{report(api.Sure, "00001234", 1, 5, 3, 7)}},
		{">1>2>3>4eaAE;abBA;bcCB;cdDC;deED", turns(0, 8, 1, 4, 2, 4, 3, 4, 4, 4), []api.Report{report(api.Sure, "000001234", 1, 3, 5, 7, 9)}},
		// For locks that all differ: the four threads make circles of two alone.
		{">1>2>3>4;baAB;abBA;baAB;abBA", turns(0, 4, 1, 4, 2, 4, 3, 4, 4, 4), []api.Report{report(api.Sure, "0012", 1, 3), report(api.Sure, "000014", 1, 7), report(api.Sure, "00023", 3, 5), report(api.Sure, "000034", 5, 7)}},
		// Those of two stand ahead of those of three, though their asks have higher numbers.
		{">1>2>3;abBAdeED;bcCBedDE;caAC", turns(0, 3, 1, 8, 2, 8, 3, 4), []api.Report{report(api.Sure, turns(0, 2, 1, 5, 2, 5), 3, 7), report(api.Sure, "000123", 1, 5, 9)}},
		// By the numbers of the asks, and not by the threads.
		{">1>2>3;abBA;baABcdDC;dcCD", turns(0, 3, 3, 4, 2, 8, 1, 4), []api.Report{report(api.Sure, turns(0, 3, 3, 1, 2, 5), 5, 1), report(api.Sure, "0021", 7, 3)}},
		// The lock is not the only one in Holds.
		{">1>2;cdabBADC;bfeaAEFB", turns(0, 2, 1, 8, 2, 8), []api.Report{report(api.Sure, turns(0, 2, 1, 3, 2, 3), 3, 7)}},
		// One ask is an event, the other waits; and the first of the two may be either.
		{">1>2a;abBA;ba", "00111120", []api.Report{report(api.Sure, "0012", 1, 4)}}, {">1>2b;ab;baAB", "00222210", []api.Report{report(api.Sure, "0021", 4, 1)}},
		// The same thread asks twice for the same lock in the same hold.
		{">1>2;abBbBA;baAB", turns(0, 2, 1, 6, 2, 4), []api.Report{report(api.Sure, "0012", 1, 4), report(api.Sure, turns(0, 2, 1, 3, 2, 1), 2, 4)}},
	})
}

func TestP10Verdicts(t *testing.T) {
	comparePredictions(t, []prediction{
		{">1>2;fabBAF;fbaABF", turns(0, 2, 1, 6, 2, 6), []api.Report{report(api.Gated, "", 2, 5)}},
		{">1<1>2;abBA;baAB", turns(0, 1, 1, 4, 0, 2, 2, 4), []api.Report{report(api.Ordered, "", 1, 3)}},
		{">1>2;abBA!z;?z1.baAB", turns(0, 2, 1, 5, 2, 5), []api.Report{report(api.Bound, "", 1, 3)}},
		// Gated comes first, also where one ask must come ahead of the other, or is needed.
		{">1<1>2;fabBAF;fbaABF", turns(0, 1, 1, 6, 0, 2, 2, 6), []api.Report{report(api.Gated, "", 2, 5)}}, {">1>2;fabBAF!z;?z1.fbaABF", turns(0, 2, 1, 7, 2, 7), []api.Report{report(api.Gated, "", 2, 5)}},
		// Two of four have the gate, who are no neighbours.
		{">1>2>3>4;fabBAF;bcCB;fcdDCF;daAD", turns(0, 4, 1, 6, 2, 4, 3, 6, 4, 4), []api.Report{report(api.Gated, "", 2, 4, 7, 9)}},
		// The lock of two Holds is one that the circle asks for.
		{">1>2;abcCBA;acbBCA", turns(0, 2, 1, 6, 2, 6), []api.Report{report(api.Gated, "", 2, 5)}},
		// A lock that one has alone, or has given back ahead of the ask, is no gate.
		{">1>2;fabBAF;baAB", turns(0, 2, 1, 6, 2, 4), []api.Report{report(api.Sure, "00112", 2, 4)}}, {">1>2;fabBAF;fFbaAB", turns(0, 2, 2, 6, 1, 6), []api.Report{report(api.Sure, "0022211", 5, 2)}},
		// The asking thread starts the other: behind its ask, or ahead of it.
		{">1;abBA>2;baAB", turns(0, 1, 1, 5, 2, 4), []api.Report{report(api.Ordered, "", 1, 3)}}, {">1;a>2bBA;baAB", turns(0, 1, 1, 5, 2, 4), []api.Report{report(api.Sure, "0112", 1, 3)}},
		// The ask of the higher thread comes ahead; or one of three ahead of another, by way of a fourth thread.
		{">2<2>1;abBA;baAB", turns(0, 1, 2, 4, 0, 2, 1, 4), []api.Report{report(api.Ordered, "", 3, 1)}},
		{">1>2>3>4;abBA;bcCB;<4caAC;<2.", turns(0, 4, 1, 4, 2, 4, 4, 2, 3, 5), []api.Report{report(api.Ordered, "", 1, 3, 5)}},
		// The other thread waits for its lock; its events must come behind the ask, or need not, or need it for a flag.
		{">1<1>2a;abBA;ba", turns(0, 1, 1, 4, 0, 2, 2, 1, 0, 1), []api.Report{report(api.Ordered, "", 1, 4)}}, {">1>2a;abBA!z;?z1.ba", turns(0, 2, 1, 5, 2, 2, 0, 1), []api.Report{report(api.Bound, "", 1, 4)}},
		{">1>2a;abBA!z;?y1.ba", turns(0, 2, 1, 5, 2, 3, 0, 1), []api.Report{report(api.Sure, "001222", 1, 4)}},
		// What comes between two asks by locks or flags alone does not order them.
		{">1>2;abBA!z;?z1.baAB", turns(0, 2, 2, 6, 1, 5), []api.Report{report(api.Sure, "002221", 3, 1)}},
		// To come to its ask thread 2 takes what thread 1 has then, and had first; or had later.
		{">1>2;abBA;aAbaAB", turns(0, 2, 1, 4, 2, 6), []api.Report{report(api.Bound, "", 1, 4)}}, {">1>2;abBA;aAbaAB", turns(0, 2, 2, 6, 1, 4), []api.Report{report(api.Sure, "002221", 4, 2)}},
		// What leads there has events of a thread that is not in the ring.
		{">1>2>3;abBA;?z1.baAB;!y!z", turns(0, 3, 3, 2, 1, 4, 2, 5), []api.Report{report(api.Sure, "00033122", 1, 3)}},
	})
}

// crowded has more than MaxReports circles.
const crowded = ">1>2>3>4abcdABCD;abcdefABCDEF;fedcbaABCDEF;cdefabABCDEF;defabcABCDEF"

var crowdedRun = turns(0, 12, 1, 12, 2, 12, 3, 12, 4, 12)

func TestP10TheFirstMost(t *testing.T) {
	for _, c := range [][2]string{
		{"", ""}, {pair, "00"}, {pair, pairRun}, {crowded, crowdedRun}, {crowded, crowdedRun[:36]}, {">1>2>3;abBA;baABabBA;baAB", turns(0, 3, 1, 4, 2, 8, 3, 4)},
	} {
		all := newTale(c[0], c[1]).reports()
		for most := range api.MaxReports + 1 {
			want := all[:min(most, len(all))]
			first, more, errno := embrace.Predict(c[0], c[1], most)
			if errno != api.OK || more != (len(all) > most) || !slices.EqualFunc(first, want, sameReport) {
				t.Errorf("P10: Predict(%q, %q, %d) = %+v, %v, %d, want %+v of %d", c[0], c[1], most, first, more, errno, want, len(all))
			}
		}
	}
	if n := len(newTale(crowded, crowdedRun).reports()); n <= api.MaxReports {
		t.Errorf("the crowded program has only %d circles", n)
	}
}

func TestP10WrongInputs(t *testing.T) {
	for _, c := range []struct {
		text, schedule string
		most           int
		want           api.Errno
	}{
		{"g", "x", -1, api.ErrText}, {";;;;;", "x", 101, api.ErrMany}, {">1", "0", 5, api.ErrThread}, {strings.Repeat(".", 161), "", 5, api.ErrLong},
		{pair, "1", -1, api.ErrSchedule}, {pair, "1", 101, api.ErrSchedule}, {pair, "1", 5, api.ErrSchedule}, {pair, "00121", 0, api.ErrSchedule}, {pair, pairRun + "0", 5, api.ErrSchedule}, {pair, "0 ", 5, api.ErrSchedule}, {pair, "\xff", 5, api.ErrSchedule}, {pair, strings.Repeat("0", 1000000), 5, api.ErrSchedule}, {"aa", "00", 5, api.ErrSchedule},
		{pair, pairRun, -1, api.ErrArg}, {pair, pairRun, 101, api.ErrArg}, {pair, pairRun, math.MinInt, api.ErrArg}, {pair, pairRun, math.MaxInt, api.ErrArg}, {"", "", -1, api.ErrArg}, {"", "", 101, api.ErrArg},
	} {
		all, more, errno := embrace.Predict(c.text, c.schedule, c.most)
		if all != nil || more || errno != c.want {
			t.Errorf("P10: Predict(%.20q, %.20q, %d) = %+v, %v, %d, want %d", c.text, c.schedule, c.most, all, more, errno, c.want)
		}
	}
}

// drawAsking draws a program and a schedule with few enough asks that all lists of them can be tried.
func drawAsking(r *rand.Rand) (string, string) {
	for {
		text := drawTold(r)
		switch r.Intn(6) {
		case 0:
			text = drawLoop(r)
		case 1, 2, 3:
			text = drawNested(r)
		}
		schedule := drawSchedule(r, text)
		if asks, _ := embrace.Asks(text, schedule); len(asks) <= 18 {
			return text, schedule
		}
	}
}

// TestP10Drawn lays drawn schedules beside what the words of the document tell of them.
func TestP10Drawn(t *testing.T) {
	r := rand.New(rand.NewSource(10))
	var verdicts, waiting [api.Sure + 1]int
	var lengths [api.MaxThreads + 1]int
	for range 3000 {
		text, schedule := drawAsking(r)
		l := newTale(text, schedule)
		want := l.reports()
		most := min(len(want), api.MaxReports)
		all, more, errno := embrace.Predict(text, schedule, api.MaxReports)
		if errno != api.OK || more != (len(want) > most) || !slices.EqualFunc(all, want[:most], sameReport) {
			t.Fatalf("P10: Predict(%q, %q, 100) = %+v, %v, %d, want %+v", text, schedule, all, more, errno, want)
		}
		for _, x := range want {
			verdicts[x.Verdict]++
			lengths[len(x.Asks)]++
			if slices.ContainsFunc(x.Asks, func(k int) bool { return l.asks[k].At < 0 }) {
				waiting[x.Verdict]++
			}
		}
	}
	if slices.Min(verdicts[api.Gated:]) < 150 || slices.Min(waiting[api.Gated:]) < 5 || slices.Min(lengths[2:]) < 40 {
		t.Errorf("the drawn schedules try too little: %v, %v, %v", verdicts, waiting, lengths)
	}
}

// TestP11SureIsARing: where the schedule of a circle leads, its threads hold each other fast, and they stay so however the program runs on.
func TestP11SureIsARing(t *testing.T) {
	r := rand.New(rand.NewSource(12))
	rings, later := 0, 0
	for range 4000 {
		text, schedule := drawAsking(r)
		asks, _ := embrace.Asks(text, schedule)
		all, _, _ := embrace.Predict(text, schedule, api.MaxReports)
		for _, x := range all {
			if x.Verdict != api.Sure {
				continue
			}
			rings++
			compareRing(t, text, x.Schedule, x.Asks, asks)
			rest, how, errno := embrace.Resume(text, x.Schedule, drawPicks(r))
			if errno != api.OK || how == api.Done {
				t.Fatalf("P11: Resume(%q, %q, ..) = %q, %d, %d", text, x.Schedule, rest, how, errno)
			}
			later += len(rest)
			for k := range len(rest) + 1 {
				compareRing(t, text, x.Schedule+rest[:k], x.Asks, asks)
			}
		}
	}
	if rings < 1000 || later < 2000 {
		t.Errorf("the drawn schedules try too little: %d, %d", rings, later)
	}
}

func compareRing(t *testing.T, text, schedule string, ring []int, asks []api.Ask) {
	t.Helper()
	view, errno := embrace.Replay(text, schedule)
	if errno != api.OK {
		t.Fatalf("P11: Replay(%q, %q) answers %d", text, schedule, errno)
	}
	for at, k := range ring {
		ask, next := asks[k], asks[ring[(at+1)%len(ring)]]
		want := api.Thread{State: api.Wants, Place: ask.Place, Holds: ask.Holds, Waits: next.Thread}
		if view.Threads[ask.Thread] != want || !strings.Contains(view.Threads[next.Thread].Holds, ask.Lock) {
			t.Fatalf("P11: of %q behind %q: thread %d is at %+v, want %+v for %s", text, schedule, ask.Thread, view.Threads[ask.Thread], want, ask.Lock)
		}
	}
}

// TestP11EveryWayOn follows all moves from the rings of some schedules.
func TestP11EveryWayOn(t *testing.T) {
	for _, c := range [][2]string{
		{pair + ";.", pairRun}, {">1>2>3.;abBA;baAB;.!u?u1.cC", turns(0, 4, 1, 4, 2, 4, 3, 5)}, {">1>2>3;abBA;?z1.baAB;!y!z..aA", turns(0, 3, 3, 6, 1, 4, 2, 5)},
	} {
		asks, _ := embrace.Asks(c[0], c[1])
		all, _, _ := embrace.Predict(c[0], c[1], api.MaxReports)
		if len(all) != 1 || all[0].Verdict != api.Sure {
			t.Fatalf("P10: Predict(%q, %q, 100) = %+v", c[0], c[1], all)
		}
		line := []string{all[0].Schedule}
		for ; len(line) > 0; line = line[1:] {
			compareRing(t, c[0], line[0], all[0].Asks, asks)
			view, _ := embrace.Replay(c[0], line[0])
			for thread, x := range view.Threads {
				if x.State == api.Ready {
					line = append(line, line[0]+string(rune('0'+thread)))
				}
			}
		}
	}
}

func TestP2ReportsAreFresh(t *testing.T) {
	for _, c := range [][2]string{{pair, "00"}, {pair, pairRun}, {crowded, crowdedRun}} {
		one, _, _ := embrace.Predict(c[0], c[1], api.MaxReports)
		two, _, _ := embrace.Predict(c[0], c[1], api.MaxReports)
		want := cloneReports(two)
		for k := range one {
			fill(one[k].Asks[:cap(one[k].Asks)], -k)
		}
		for k := range one {
			if slices.ContainsFunc(one[k].Asks[:cap(one[k].Asks)], func(x int) bool { return x != -k }) {
				t.Fatalf("P2: of %q and %q: report %d shares room", c[0], c[1], k)
			}
			fill(one[k].Asks[:cap(one[k].Asks)], 77)
		}
		for i := range one[:cap(one)] {
			one[:cap(one)][i] = report(77, "x", 77)
		}
		three, _, _ := embrace.Predict(c[0], c[1], api.MaxReports)
		for _, list := range [][]api.Report{two, three} {
			if !slices.EqualFunc(list, want, sameReport) || slices.ContainsFunc(list[:cap(list)], func(x api.Report) bool { return x.Verdict == 77 || slices.Contains(x.Asks[:cap(x.Asks)], 77) }) {
				t.Fatalf("P2: of %q and %q: %v, want %v", c[0], c[1], list, want)
			}
		}
	}
}

func fill(room []int, x int) {
	for i := range room {
		room[i] = x
	}
}

func cloneReports(list []api.Report) []api.Report {
	clone := slices.Clone(list)
	for k := range clone {
		clone[k].Asks = slices.Clone(clone[k].Asks)
	}
	return clone
}
