package trace

import (
	"math"
	"slices"
	"strings"
	"testing"

	"embrace/api"
	"embrace/program"
)

const (
	pair = ">1>2<1<2;abBA;baAB"
	run  = "001111022220"
)

func follow(t *testing.T, text, schedule string) Trace {
	t.Helper()
	p, errno, _ := program.Read(text)
	if errno != api.OK {
		t.Fatalf("%q is no program: %d", text, errno)
	}
	l, ok := Follow(p, schedule)
	if !ok {
		t.Fatalf("%q is no schedule of %q", schedule, text)
	}
	return l
}

func TestFollow(t *testing.T) {
	p, _, _ := program.Read(pair)
	for _, schedule := range []string{"1", "9", "/", "\xff", "000", "00121", run + "0", strings.Repeat("0", 61), strings.Repeat("0", 1000000)} {
		if l, ok := Follow(p, schedule); ok || l.events != nil || l.wants != nil {
			t.Errorf("%.20q is taken for a schedule", schedule)
		}
	}
}

// TestLongest: a program that has as many events as there can be.
func TestLongest(t *testing.T) {
	dots := strings.Repeat(".", 8)
	text := ">1>2>3>4" + dots + strings.Repeat(";"+dots+"....", 4)
	schedule := ""
	for x := range 5 {
		schedule += strings.Repeat(string(rune('0'+x)), 12)
	}
	l := follow(t, text, schedule)
	if len(l.events) != maxEvents || !l.Before(0, 12) || l.Before(4, 12) || !l.Before(3, 59) || l.Before(47, 59) {
		t.Errorf("P8: of %q: %d events", schedule, len(l.events))
	}
	want := []int{0, 1, 2, 3, 48, 49, 50, 51, 52, 53, 54, 55, 56, 57, 58, 59}
	if got := l.Close([]int{59}); !slices.Equal(got, want) {
		t.Errorf("P9: %v, want %v", got, want)
	}
}

func TestNumbersOfNoEvent(t *testing.T) {
	l := follow(t, pair, run)
	none := follow(t, pair, "")
	for _, i := range []int{math.MinInt, -1, 12, 59, 60, 61, math.MaxInt} {
		if l.Has(i) || none.Has(i) || l.Before(i, 8) || l.Before(8, i) || l.Before(i, i) || none.Before(i, 0) || none.Before(0, i) {
			t.Errorf("P8: %d is taken for an event", i)
		}
		if got := l.Close([]int{i, 1, i}); !slices.Equal(got, []int{0, 1}) {
			t.Errorf("P9: with %d: %v", i, got)
		}
	}
	if !l.Has(0) || !l.Has(11) || none.Has(0) {
		t.Errorf("P8: events are not known")
	}
}

func TestLastAhead(t *testing.T) {
	for _, c := range []struct {
		text, schedule string
		ask, want      int
		ok             bool
	}{
		{pair, run, 0, 0, false}, {pair, run, 1, 2, true}, {pair, run, 2, 0, false}, {pair, run, 3, 7, true},
		{pair, "0012", 2, 2, true}, {pair, "0012", 3, 3, true}, {"a>1;a", "00", 1, 0, false}, {".a", "00", 0, 0, true}, {">1.a;.", "0010", 0, 1, true},
	} {
		l := follow(t, c.text, c.schedule)
		ask := l.Asks()[c.ask]
		if last, ok := l.LastAhead(ask); last != c.want || ok != c.ok {
			t.Errorf("P10: of %q and %q, ask %d: %d, %v, want %d, %v", c.text, c.schedule, c.ask, last, ok, c.want, c.ok)
		}
	}
}

func TestSchedule(t *testing.T) {
	l := follow(t, pair, run)
	for _, c := range []struct {
		events []int
		want   string
	}{{nil, ""}, {[]int{0, 1, 2, 7}, "0012"}, {[]int{11, 10, 5}, "021"}, {[]int{-1, 2, 12, math.MaxInt, 7, math.MinInt}, "12"}} {
		if got := l.Schedule(c.events); got != c.want {
			t.Errorf("P10: %v: %q, want %q", c.events, got, c.want)
		}
	}
}
