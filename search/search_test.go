package search

import (
	"math"
	"testing"

	"embrace/api"
	"embrace/machine"
	"embrace/program"
)

func read(t *testing.T, text string) program.Program {
	t.Helper()
	p, errno, _ := program.Read(text)
	if errno != api.OK {
		t.Fatalf("%q is no program: %d", text, errno)
	}
	return p
}

func TestHasRing(t *testing.T) {
	for _, c := range []struct {
		text, schedule string
		want           bool
	}{
		{"", "", false}, {">1>2;ab;ba", "0012", true}, {">1>2;ab;ba", "0011", false}, {">1>2;ab;ba", "001", false}, {"a>1b;ba", "001", true},
		{">1>2>3;ab;bc;ca", "000123", true}, {">1>2>3;ab;bc;ca", "00012", false}, {">1>2>3>4ab;bc;cd;de;ea", "000001234", true}, {">1>2>3>4ab;ea;de;cd;bc", "000001234", true}, {">1>2>3>4ab;bc;cd;de;ea", "00000123", false},
		// Threads below the ring, and above it, want one of its locks.
		{">1>2>3;b;ab;ba", "00023", true}, {">1>2>3;ab;ba;b", "00012", true}, {">1>2>3>4;c;bc;ca;ac", "000034", true},
		// The thread with the lock waits for an end, has ended, or is at a fault.
		{">1a<1;a", "00", false}, {">1<1;<0", "0", false}, {">1a;a", "00", false}, {">1aa;a", "00", false},
	} {
		p := read(t, c.text)
		s, ok := machine.Follow(p, c.schedule)
		if !ok || hasRing(p, s) != c.want {
			t.Errorf("P12: of %q behind %q: want %v", c.text, c.schedule, c.want)
		}
	}
}

func TestSearchEndsWithEveryBudget(t *testing.T) {
	for _, c := range []struct {
		text   string
		budget int
		way    string
		what   int
	}{
		{"...", math.MinInt, "", api.Short}, {"...", -1, "", api.Short}, {"...", 0, "", api.Short}, {"...", 3, "", api.Short}, {"...", 4, "", api.None}, {"...", math.MaxInt, "", api.None},
		{">1>2;ab;ba", 8, "", api.Short}, {">1>2;ab;ba", 9, "0012", api.Found}, {">1>2;ab;ba", math.MaxInt, "0012", api.Found},
	} {
		way, what := Search(read(t, c.text), c.budget)
		if way != c.way || what != c.what {
			t.Errorf("P12: of %q with %d: %q, %d, want %q, %d", c.text, c.budget, way, what, c.way, c.what)
		}
	}
}

// TestLine: a state is put there once, whether it was looked at or not.
func TestLine(t *testing.T) {
	p := read(t, ">1.;.")
	l := line{}
	for _, schedule := range []string{"", "0", "00", "01", "001", "010", "", "00", "0"} {
		s, ok := machine.Follow(p, schedule)
		if !ok {
			t.Fatalf("%q is no schedule", schedule)
		}
		l.put(stop{state: s, schedule: schedule})
	}
	want := []string{"", "0", "00", "01", "001"}
	if len(l.stops) != len(want) {
		t.Fatalf("P12: %d states, want %d", len(l.stops), len(want))
	}
	for k, x := range l.stops {
		if x.schedule != want[k] {
			t.Errorf("P12: state %d came by %q, want %q", k, x.schedule, want[k])
		}
	}
}
