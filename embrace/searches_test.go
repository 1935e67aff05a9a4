package embrace_test

import (
	"math"
	"math/rand"
	"slices"
	"strings"
	"testing"

	"embrace/api"
	"embrace/embrace"
)

const gate = ">1>2;fabBAF;fbaABF"

func compareSearch(t *testing.T, text string, budget int, way string, what int) {
	t.Helper()
	got, how, errno := embrace.Search(text, budget)
	if got != way || how != what || errno != api.OK {
		t.Fatalf("P12: Search(%q, %d) = %q, %d, %d, want %q, %d", text, budget, got, how, errno, way, what)
	}
}

func TestP12Found(t *testing.T) {
	for _, c := range [][2]string{
		{pair, "0012"}, {"a>1b;ba", "001"},
		// Three, four and five threads, any way round.
		{">1>2>3;abBA;bcCB;caAC", "000123"}, {">1>2>3;acCA;baAB;cbBC", "000123"}, {">1>2>3>4;ab;bc;cd;da", "00001234"}, {">1>2>3>4ab;bc;cd;de;ea", "000001234"},
		// The other threads may move, or are at a fault, or want one of the ring's locks.
		{">1>2>3;ab;ba;.....", "0012"}, {">1>2A;ab;ba", "0012"}, {">1>2>3a;ab;ba;b", "0012"}, {">1>2>3c;..c;ab;ba", "00023"}, {">3a>1>2;a;bc;cb", "000023"},
		// A ring that a thread below it leads into, and is not in.
		{">1>2>3;b;ab;ba", "00023"}, {">1>2>3>4;c;bc;ca;ac", "000034"},
		// Of rings equally far the first by its digits; a nearer one of higher digits comes first.
		{">1>2>3>4;ab;ba;cd;dc", "0012"}, {">1>2>3>4;.ab;.ba;cd;dc", "000034"}, {">1>2>3>4;.ab;..ba;cd;dc", "000034"}, {">4>3>1>2;ab;ba;dc;cd", "0034"},
		{"a>1.b;b.a", "00011"}, {"a>1b.;..ba", "00111"},
		// A flag leads there, or makes the way shorter.
		{">1>2;!uabBA;?u1<2ba", "001122"}, {"!u>1>2;?u3...ab;ba", "000112"}, {">1>2>3;..ab;?u3...ba;!u", "000111322"},
	} {
		h := newHunt(c[0], api.MaxBudget)
		if h.what != api.Found || h.way != c[1] {
			t.Errorf("P12: of %q the model says %+v, not %q", c[0], h, c[1])
			continue
		}
		compareSearch(t, c[0], api.MaxBudget, c[1], api.Found)
	}
}

func TestP12None(t *testing.T) {
	for _, text := range []string{
		"", ";", "...", "aa", "A", ">0", gate, ">1>2;abBA;abBA", ">1>2;aAbB;bBaA",
		// What holds them fast is no ring: a thread's end, also in both directions; a lock of a thread that has ended, or is at a fault, or waits for itself.
		"<0", "<1;.", ">1a<1;a", ">1<1;<0", ">1a<1;b<0a", ">1>2;a;a", ">1>2;ab;b", ">1aB;a", ">1aa;a", ">1a<0;a", ">1>2;a<2;b<1", ">1>2a;b<0;ab",
		// The order of starts and ends, or a flag, keeps them apart; and a thread that never starts is in no ring.
		">1<1>2;abBA;baAB", ">1>2;abBA>2;<2baAB", ">1>2;ab;?u1<2ba", "!u>1>2;ab;?u2baAB", ">1;ab;ba", "ab>1;ba",
		// Two links of a ring of three are none.
		">1>2>3;ab;bc;c", ">1>2;ab;bc",
	} {
		h := newHunt(text, api.MaxBudget)
		if h.what != api.None || h.way != "" {
			t.Errorf("P12: of %q the model says %+v", text, h)
			continue
		}
		compareSearch(t, text, api.MaxBudget, "", api.None)
	}
}

// TestP12Budget counts the states that are looked at: one less is too few.
func TestP12Budget(t *testing.T) {
	for _, c := range []struct {
		text string
		want hunt
	}{
		{"", hunt{1, "", api.None}}, {"<0", hunt{1, "", api.None}}, {"aa", hunt{2, "", api.None}}, {"...", hunt{4, "", api.None}}, {pair, hunt{9, "0012", api.Found}}, {gate, hunt{32, "", api.None}},
		// To which several schedules lead is one state; also where one of them is longer.
		{">1..;..", hunt{10, "", api.None}}, {">1!u.;?u2..", hunt{13, "", api.None}},
		// States are told apart by their flags alone; by their locks; by the threads that are started.
		{">1!u;~u", hunt{6, "", api.None}}, {">1?u1a.;!u~u", hunt{17, "", api.None}}, {">1?u1>2;!u~u;.", hunt{15, "", api.None}},
		// MaxBudget states, and one more; the ring in the last of them, and behind it.
		{">1>2......;......;.......", hunt{400, "", api.None}}, {">1>2......;.......;......", hunt{401, "", api.Short}},
		{">1>2>3........;...ab;.....ba;.", hunt{400, "001111222222", api.Found}}, {">1>2........;...ab;........ba", hunt{401, "", api.Short}},
	} {
		if h := newHunt(c.text, api.MaxBudget); h != c.want {
			t.Errorf("P12: of %q the model says %+v, not %+v", c.text, h, c.want)
		}
		for budget := range api.MaxBudget + 1 {
			way, what := c.want.answer(budget)
			compareSearch(t, c.text, budget, way, what)
		}
	}
}

func TestP12WrongInputs(t *testing.T) {
	for _, c := range []struct {
		text   string
		budget int
		want   api.Errno
	}{
		{pair, -1, api.ErrArg}, {pair, 401, api.ErrArg}, {pair, math.MinInt, api.ErrArg}, {pair, math.MaxInt, api.ErrArg}, {"", -1, api.ErrArg}, {"", 401, api.ErrArg},
		{"g", -1, api.ErrText}, {"g", 5, api.ErrText}, {"a?u", 401, api.ErrText}, {";;;;;", 401, api.ErrMany}, {strings.Repeat(".", 13), -1, api.ErrMany}, {">1", 401, api.ErrThread}, {"<1", 0, api.ErrThread}, {strings.Repeat(".", 161), -1, api.ErrLong},
	} {
		way, what, errno := embrace.Search(c.text, c.budget)
		if way != "" || what != 0 || errno != c.want {
			t.Errorf("P12: Search(%.20q, %d) = %q, %d, %d, want %d", c.text, c.budget, way, what, errno, c.want)
		}
	}
}

// TestP12Drawn lays drawn searches beside the model's, with budgets around the number of states that it looks at.
func TestP12Drawn(t *testing.T) {
	r := rand.New(rand.NewSource(14))
	var ends [api.Short + 1]int
	for range 2500 {
		text := drawHunted(r)
		h := newHunt(text, api.MaxBudget)
		ends[h.what]++
		for _, budget := range []int{h.looked, h.looked - 1, h.looked + 1, api.MaxBudget, 0, r.Intn(api.MaxBudget + 1)} {
			way, what := h.answer(budget)
			compareSearch(t, text, min(budget, api.MaxBudget), way, what)
		}
	}
	if slices.Min(ends[api.Found:]) < 100 {
		t.Errorf("the drawn programs try too little: %v", ends)
	}
}

// TestP12ShortestAndFirst: no schedule that is shorter, or as long and of lower digits, leads to a ring; and none at all, where none is found.
func TestP12ShortestAndFirst(t *testing.T) {
	r := rand.New(rand.NewSource(15))
	var ends [api.Short + 1]int
	for range 1500 {
		text := drawHunted(r)
		h := newTreeHunt(text, 3000)
		way, what, errno := embrace.Search(text, api.MaxBudget)
		if h.what == api.Short || what == api.Short {
			continue
		}
		ends[what]++
		if way != h.way || what != h.what || errno != api.OK {
			t.Fatalf("P12: Search(%q, 400) = %q, %d, %d, want %q, %d", text, way, what, errno, h.way, h.what)
		}
	}
	if ends[api.Found] < 200 || ends[api.None] < 200 {
		t.Errorf("the drawn programs try too little: %v", ends)
	}
}

// TestP12AndWhatIsSure: a search misses no ring that is sure to be there, and finds none farther away.
func TestP12AndWhatIsSure(t *testing.T) {
	r := rand.New(rand.NewSource(16))
	rings := 0
	for range 2000 {
		text := drawHunted(r)
		way, what, _ := embrace.Search(text, api.MaxBudget)
		all, _, _ := embrace.Predict(text, drawSchedule(r, text), api.MaxReports)
		for _, x := range all {
			if x.Verdict != api.Sure || what == api.Short {
				continue
			}
			rings++
			if what == api.None || len(way) > len(x.Schedule) || len(way) == len(x.Schedule) && way > x.Schedule {
				t.Fatalf("P12: Search(%q, 400) = %q, %d, but %q leads to a ring", text, way, what, x.Schedule)
			}
		}
	}
	if rings < 200 {
		t.Errorf("the drawn schedules try too little: %d", rings)
	}
}
