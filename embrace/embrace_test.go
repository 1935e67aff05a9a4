package embrace_test

import (
	"math"
	"math/rand"
	"reflect"
	"slices"
	"strings"
	"testing"

	"embrace/api"
	"embrace/embrace"
)

const pair = ">1>2<1<2;abBA;baAB"

// answers are what all calls answer, in the order of the document.
func answers(text, schedule, picks string, i, j int, events []int) []any {
	errno, place := embrace.Check(text)
	moves, how, e1 := embrace.Run(text, picks)
	rest, end, e2 := embrace.Resume(text, schedule, picks)
	view, e3 := embrace.Replay(text, schedule)
	asks, e4 := embrace.Asks(text, schedule)
	before, e5 := embrace.Before(text, schedule, i, j)
	closed, e6 := embrace.Close(text, schedule, events)
	reports, more, e7 := embrace.Predict(text, schedule, i)
	found, what, e8 := embrace.Search(text, j)
	return []any{errno, place, moves, how, e1, rest, end, e2, view, e3, asks, e4, before, e5, closed, e6, reports, more, e7, found, what, e8}
}

func drawText(r *rand.Rand, alphabet string, most int) string {
	b := make([]byte, r.Intn(most+1))
	for i := range b {
		b[i] = byte(r.Intn(256))
		if alphabet != "" && r.Intn(100) > 0 {
			b[i] = alphabet[r.Intn(len(alphabet))]
		}
	}
	return string(b)
}

func TestP1EveryCallEndsAndNonePanics(t *testing.T) {
	r := rand.New(rand.NewSource(1))
	numbers := []int{math.MinInt, -1, 0, 1, 9, 100, 101, 400, 401, math.MaxInt}
	for k := range 6000 {
		text := drawText(r, "", 20)
		switch k % 3 {
		case 0:
			text = drawProgram(r)
		case 1:
			text = drawText(r, ".aAbB!u~?1><0;", 30)
		}
		schedule := drawText(r, "0001123456789", 12)
		if r.Intn(2) == 0 {
			schedule, _, _ = embrace.Run(text, drawPicks(r))
		}
		i, j := numbers[r.Intn(len(numbers))], numbers[r.Intn(len(numbers))]
		answers(text, schedule, drawPicks(r), i, j, []int{i, j, i})
	}
	long := strings.Repeat("0", 5000000)
	answers(long, long, long, 0, 0, nil)
	answers(pair, long, long, 0, 0, make([]int, 1000000))
}

func TestP1AnswersHangOnTheArgumentsAlone(t *testing.T) {
	r := rand.New(rand.NewSource(2))
	type call struct{ text, schedule, picks string }
	calls := []call{{pair, "0012", ""}, {pair, pairRun, ""}, {crowded, crowdedRun, ""}, {pair, "9", "\x01"}, {"ag", "", ""}, {";;;;;", "", ""}}
	for range 100 {
		text := drawProgram(r)
		schedule, _, _ := embrace.Run(text, drawPicks(r))
		calls = append(calls, call{text, schedule[:r.Intn(len(schedule)+1)], drawPicks(r)})
	}
	first := make([][]any, len(calls))
	for i, c := range calls {
		first[i] = answers(c.text, c.schedule, c.picks, i%5, 7, []int{0})
	}
	for _, i := range r.Perm(len(calls)) {
		c := calls[i]
		if again := answers(c.text, c.schedule, c.picks, i%5, 7, []int{0}); !reflect.DeepEqual(again, first[i]) {
			t.Errorf("P1: of %q: first %v, then %v", c, first[i], again)
		}
	}
}

func TestP2ListsHandedInAreNotWrittenInto(t *testing.T) {
	all := []int{7, 2, 2, 0, -5, 99}
	embrace.Close(pair, "001111022220", all[:3])
	embrace.Close(pair, "001111022220", all[:4:4])
	embrace.Close(pair, "001111022220", all)
	if !slices.Equal(all, []int{7, 2, 2, 0, -5, 99}) {
		t.Errorf("P2: the list is now %v", all)
	}
}

func TestP2ListsThatComeOutAreFresh(t *testing.T) {
	for _, text := range []string{"", "a", pair, ";;;;"} {
		one, _ := embrace.Replay(text, "")
		two, _ := embrace.Replay(text, "")
		want := slices.Clone(two.Threads)
		room := one.Threads[:cap(one.Threads)]
		for i := range room {
			room[i] = api.Thread{State: 77, Place: 77, Holds: "x", Waits: 77}
		}
		three, _ := embrace.Replay(text, "")
		if !slices.Equal(two.Threads, want) || !slices.Equal(three.Threads, want) {
			t.Errorf("P2: Replay(%q): %v and %v, want %v", text, two.Threads, three.Threads, want)
		}
		for _, x := range two.Threads[len(two.Threads):cap(two.Threads)] {
			if x.State == 77 {
				t.Errorf("P2: Replay(%q): spare room is shared", text)
			}
		}
	}
}

func TestP3Check(t *testing.T) {
	dots := strings.Repeat(".", 12)
	for _, c := range []struct {
		text  string
		errno api.Errno
		place int
	}{
		{pair, api.OK, 0}, {"ab;", api.OK, 0}, {"", api.OK, 0}, {dots, api.OK, 0}, {";;;;", api.OK, 0}, {"abcdefABCDEF", api.OK, 0}, {"!u~u?u1!z~z?z9", api.OK, 0}, {">0<0", api.OK, 0},
		{"ag", api.ErrText, 1}, {"a?u", api.ErrText, 3}, {"a?u0", api.ErrText, 3}, {"!a", api.ErrText, 1}, {"\x00", api.ErrText, 0}, {"a\n", api.ErrText, 1}, {"é", api.ErrText, 0},
		{";;;;;", api.ErrMany, 5}, {dots + ".", api.ErrMany, 0}, {dots + ";" + dots + ".", api.ErrMany, 1},
		{".>1", api.ErrThread, 2}, {"<0<1", api.ErrThread, 3}, {">1;>2<3", api.ErrThread, 4},
		{strings.Repeat("?u1", 54), api.ErrLong, 0}, {strings.Repeat(".", 160), api.ErrMany, 0},
	} {
		errno, place := embrace.Check(c.text)
		if errno != c.errno || place != c.place {
			t.Errorf("P3: Check(%q) = %d, %d, want %d, %d", c.text, errno, place, c.errno, c.place)
		}
	}
}

func TestP3TheErrorNamedFirst(t *testing.T) {
	dots := strings.Repeat(".", 13)
	for _, c := range []struct {
		text  string
		errno api.Errno
		place int
	}{
		{strings.Repeat("g", 161), api.ErrLong, 0}, {strings.Repeat(";", 161), api.ErrLong, 0},
		{dots + ">9g", api.ErrText, 15}, {";;;;;>9?", api.ErrText, 8},
		{">9" + dots, api.ErrMany, 0}, {">9;;;;;", api.ErrMany, 5}, {";;;" + dots + ";;", api.ErrMany, 3}, {";;;;;" + dots, api.ErrMany, 5},
	} {
		errno, place := embrace.Check(c.text)
		if errno != c.errno || place != c.place {
			t.Errorf("P3: Check(%q) = %d, %d, want %d, %d", c.text, errno, place, c.errno, c.place)
		}
	}
}

func TestP4FirstErrorOfAllCallsIsChecks(t *testing.T) {
	for _, text := range []string{strings.Repeat(".", 161), "ag", "a?u", ";;;;;", strings.Repeat(".", 13), ".>1", "<1"} {
		want, place := embrace.Check(text)
		for _, wrong := range []int{-1, 0, 1000} {
			got := answers(text, "x", "\x01", wrong, wrong, []int{wrong})
			none := []any{want, place, "", 0, want, "", 0, want, api.View{}, want, []api.Ask(nil), want, false, want, []int(nil), want, []api.Report(nil), false, want, "", 0, want}
			if want == api.OK || !reflect.DeepEqual(got, none) {
				t.Errorf("P4: (%q): %v, want %v", text, got, none)
			}
		}
	}
}

func TestP5Run(t *testing.T) {
	for _, c := range []struct {
		text, picks, moves string
		how                int
	}{
		{pair, "", "001111022220", api.Done}, {pair, "\x00\x00\x00\x01", "0012", api.Stuck}, {"", "", "", api.Done}, {";a", "\x09", "", api.Done},
		{"aa", "", "0", api.Fault}, {"A", "", "", api.Fault}, {"<0", "", "", api.Stuck}, {"<1;.", "", "", api.Stuck}, {"<1;", "", "", api.Stuck}, {">1<1;", "", "00", api.Done},
		{"?u1a.A", "", "0000", api.Done}, {"!u?u2a.A", "", "00", api.Fault}, {"!u?u9a.A", "", "00", api.Done}, {"!u?u3a.A", "", "00", api.Done},
		{">1.;A", "", "00", api.Fault}, {">1.;A", "\x00\x01", "0", api.Fault}, {">1.;A", "\x00\x02", "00", api.Fault},
		{"a>1;aA", "", "00", api.Stuck}, {">1.;.", "\xff\xff", "010", api.Done}, {">1.;.", "\xff\xfe", "001", api.Done},
		{"a>1aA;a", "", "00", api.Fault}, {"a", strings.Repeat("\x07", 100000), "0", api.Done},
	} {
		moves, how, errno := embrace.Run(c.text, c.picks)
		if moves != c.moves || how != c.how || errno != api.OK {
			t.Errorf("P5: Run(%q, %.20q) = %q, %d, %d, want %q, %d", c.text, c.picks, moves, how, errno, c.moves, c.how)
		}
	}
}

func TestP5Resume(t *testing.T) {
	for _, c := range []struct {
		text, schedule, picks, moves string
		how                          int
	}{
		{pair, "001", "\x01", "2", api.Stuck}, {pair, "001", "", "111022220", api.Done}, {pair, "001111022220", "\x05", "", api.Done}, {pair, "0012", "\x05", "", api.Stuck},
		{"aa", "0", "", "", api.Fault}, {">1.;.A", "01", "\x01", "", api.Fault}, {">1.;.A", "01", "", "0", api.Fault},
	} {
		moves, how, errno := embrace.Resume(c.text, c.schedule, c.picks)
		if moves != c.moves || how != c.how || errno != api.OK {
			t.Errorf("P5: Resume(%q, %q, %q) = %q, %d, %d, want %q, %d", c.text, c.schedule, c.picks, moves, how, errno, c.moves, c.how)
		}
	}
}

func TestP5P6NoSchedule(t *testing.T) {
	for _, c := range [][2]string{
		{pair, "1"}, {pair, "02"}, {pair, "3"}, {pair, "5"}, {pair, "9"}, {pair, "/"}, {pair, ":"}, {pair, "0 "}, {pair, "\x00"}, {pair, "\xff"}, {pair, "000"}, {pair, "00121"}, {pair, "0011110222200"}, {pair, strings.Repeat("0", 1000000)},
		{"", "0"}, {"aa", "00"}, {"A", "0"}, {">0", "0"}, {">1>1;", "00"}, {"<0", "0"}, {"<1;", "0"}, {"a>1;a", "001"}, {"!u?u9...", "000"},
	} {
		moves, how, e := embrace.Resume(c[0], c[1], "\x01")
		view, f := embrace.Replay(c[0], c[1])
		if moves != "" || how != 0 || e != api.ErrSchedule || view.Threads != nil || view.Flags != "" || f != api.ErrSchedule {
			t.Errorf("P5, P6: of %q and the schedule %.20q: %q, %d, %d; %v, %d", c[0], c[1], moves, how, e, view, f)
		}
	}
}

func at(state, place int, holds string, waits int) api.Thread {
	return api.Thread{State: state, Place: place, Holds: holds, Waits: waits}
}

func TestP6Replay(t *testing.T) {
	unborn := at(api.Unborn, 0, "", -1)
	for _, c := range []struct {
		text, schedule string
		view           api.View
	}{
		{pair, "0012", api.View{Threads: []api.Thread{at(api.Joins, 2, "", 1), at(api.Wants, 1, "a", 2), at(api.Wants, 1, "b", 1)}}},
		{pair, "01", api.View{Threads: []api.Thread{at(api.Ready, 1, "", -1), at(api.Ready, 1, "a", -1), unborn}}},
		{"", "", api.View{Threads: []api.Thread{at(api.Ended, 0, "", -1)}}},
		{";", "", api.View{Threads: []api.Thread{at(api.Ended, 0, "", -1), unborn}}},
		{">1;", "0", api.View{Threads: []api.Thread{at(api.Ended, 1, "", -1), at(api.Ended, 0, "", -1)}}},
		{"fcadD", "0000", api.View{Threads: []api.Thread{at(api.Ready, 4, "acdf", -1)}}},
		{"fa>1;a", "000", api.View{Threads: []api.Thread{at(api.Ended, 3, "af", -1), at(api.Wants, 0, "", 0)}}},
		{"aa", "0", api.View{Threads: []api.Thread{at(api.Faulted, 1, "a", -1)}}},
		{"<0", "", api.View{Threads: []api.Thread{at(api.Joins, 0, "", 0)}}},
		{"!z!w!u~w", "000", api.View{Threads: []api.Thread{at(api.Ready, 3, "", -1)}, Flags: "uwz"}},
		{"!z!w!u~w", "0000", api.View{Threads: []api.Thread{at(api.Ended, 4, "", -1)}, Flags: "uz"}},
		{"~z!y?y1AA", "000", api.View{Threads: []api.Thread{at(api.Faulted, 4, "", -1)}, Flags: "y"}},
		{"!y?y9AA", "00", api.View{Threads: []api.Thread{at(api.Ended, 4, "", -1)}, Flags: "y"}},
	} {
		view, errno := embrace.Replay(c.text, c.schedule)
		if errno != api.OK || !reflect.DeepEqual(view, c.view) {
			t.Errorf("P6: Replay(%q, %q) = %+v, %d, want %+v", c.text, c.schedule, view, errno, c.view)
		}
	}
}

// TestP5P6Drawn lays drawn programs and their runs beside the model's.
func TestP5P6Drawn(t *testing.T) {
	r := rand.New(rand.NewSource(4))
	var ends [api.Fault + 1]int
	for range 3000 {
		text, picks := drawProgram(r), drawPicks(r)
		moves, how := newModel(text).run(picks)
		got, end, errno := embrace.Run(text, picks)
		if got != moves || end != how || errno != api.OK {
			t.Fatalf("P5: Run(%q, %q) = %q, %d, %d, want %q, %d", text, picks, got, end, errno, moves, how)
		}
		ends[how]++
		m := newModel(text)
		for k := range len(moves) + 1 {
			compareAt(t, m, text, moves[:k])
			rest, end, errno := embrace.Resume(text, moves[:k], picks[min(k, len(picks)):])
			if rest != moves[k:] || end != how || errno != api.OK {
				t.Fatalf("P5: Resume(%q, %q, ..) = %q, %d, %d, want %q, %d", text, moves[:k], rest, end, errno, moves[k:], how)
			}
			if k < len(moves) {
				m.move(int(moves[k] - '0'))
			}
		}
	}
	for how := api.Done; how <= api.Fault; how++ {
		if ends[how] < 100 {
			t.Errorf("only %d of the drawn runs end with %d", ends[how], how)
		}
	}
}

func compareAt(t *testing.T, m *model, text, schedule string) {
	t.Helper()
	want := m.view()
	if view, errno := embrace.Replay(text, schedule); errno != api.OK || !reflect.DeepEqual(view, want) {
		t.Fatalf("P6: Replay(%q, %q) = %+v, %d, want %+v", text, schedule, view, errno, want)
	}
	for b := byte('0') - 1; b <= '9'+1; b++ {
		x := int(b) - '0'
		errno := api.ErrSchedule
		if x >= 0 && x < len(want.Threads) && want.Threads[x].State == api.Ready {
			errno = api.OK
		}
		longer := schedule + string(rune(b))
		if _, e := embrace.Replay(text, longer); e != errno {
			t.Fatalf("P6: Replay(%q, %q) answers %d, want %d", text, longer, e, errno)
		}
	}
}
