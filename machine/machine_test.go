package machine

import (
	"testing"

	"embrace/api"
	"embrace/program"
)

func read(t *testing.T, text string) program.Program {
	t.Helper()
	p, errno, _ := program.Read(text)
	if errno != api.OK {
		t.Fatalf("%q is no program: %d", text, errno)
	}
	return p
}

func TestLook(t *testing.T) {
	for _, c := range []struct {
		text, schedule string
		thread         int
		state, waits   int
	}{
		{"a;b", "", 0, api.Ready, nobody}, {"a;b", "", 1, api.Unborn, nobody}, {"a;b", "0", 0, api.Ended, nobody},
		{"a;b", "", 2, api.Unborn, nobody}, {"a;b", "", -1, api.Unborn, nobody}, {"a;b", "", 99, api.Unborn, nobody},
		{"aa", "0", 0, api.Faulted, nobody}, {"A", "", 0, api.Faulted, nobody}, {"aA", "0", 0, api.Ready, nobody}, {"aB", "0", 0, api.Faulted, nobody},
		{"a>1;aA", "00", 1, api.Wants, 0}, {"a>1;A", "00", 1, api.Faulted, nobody}, {"a>1A;aA", "000", 1, api.Ready, nobody},
		{">0", "", 0, api.Faulted, nobody}, {">1>1;.", "0", 0, api.Faulted, nobody}, {">1>1;.", "01", 0, api.Faulted, nobody},
		{"<0", "", 0, api.Joins, 0}, {"<1;", "", 0, api.Joins, 1}, {">1<1;", "0", 0, api.Ready, nobody}, {">1<1;.", "0", 0, api.Joins, 1}, {">1<1;.", "01", 0, api.Ready, nobody},
		{"!u?u9..", "00", 0, api.Ended, nobody},
	} {
		p := read(t, c.text)
		s, ok := Follow(p, c.schedule)
		state, waits := Look(p, s, c.thread)
		if !ok || state != c.state || waits != c.waits {
			t.Errorf("P6: %q behind %q: thread %d: %d, %d, want %d, %d", c.text, c.schedule, c.thread, state, waits, c.state, c.waits)
		}
	}
}

func TestNext(t *testing.T) {
	for _, c := range []struct {
		text, schedule string
		thread         int
		step           program.Step
		place          int
		ok             bool
	}{
		{".?v3.;b", "0", 0, program.Step{Kind: program.Skip, Which: 1, Count: 3}, 1, true}, {"a;b", "", 1, program.Step{Kind: program.Take, Which: 1}, 0, true},
		{"a;b", "0", 0, program.Step{}, 0, false}, {"a;b", "", 2, program.Step{}, 0, false}, {"a;b", "", -1, program.Step{}, 0, false}, {"a;b", "", 99, program.Step{}, 0, false}, {";;;;", "", 5, program.Step{}, 0, false},
	} {
		p := read(t, c.text)
		s, _ := Follow(p, c.schedule)
		step, place, ok := Next(p, s, c.thread)
		if step != c.step || place != c.place || ok != c.ok {
			t.Errorf("%q behind %q: thread %d: %v, %d, %v, want %v, %d, %v", c.text, c.schedule, c.thread, step, place, ok, c.step, c.place, c.ok)
		}
	}
}

func TestMoveThatMayNotBe(t *testing.T) {
	for _, c := range []struct {
		text, schedule string
		thread         int
	}{
		{"a;b", "", 1}, {"a;b", "", 2}, {"a;b", "", -1}, {"a", "0", 0}, {"aa", "0", 0}, {"<0", "", 0}, {"a>1;a", "00", 1},
	} {
		p := read(t, c.text)
		s, _ := Follow(p, c.schedule)
		after, ok := Move(p, s, c.thread)
		if ok || after != s {
			t.Errorf("P5: %q behind %q: thread %d moves", c.text, c.schedule, c.thread)
		}
	}
}

func TestMoveLeavesTheStateBeforeIt(t *testing.T) {
	p := read(t, "a!u>1~uA;")
	s := First()
	for range 5 {
		before := s
		after, ok := Move(p, s, 0)
		if !ok || s != before || after == s {
			t.Fatalf("a move from %v to %v", before, after)
		}
		s = after
	}
}

func TestSameState(t *testing.T) {
	p := read(t, ">1>2aA;bB;.")
	one, _ := Follow(p, "00120")
	other, _ := Follow(p, "00210")
	third, _ := Follow(p, "00010")
	if one != other || one == third {
		t.Errorf("states that are the same are told apart, or others are not: %v, %v, %v", one, other, third)
	}
}
