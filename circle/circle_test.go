package circle

import (
	"math"
	"slices"
	"testing"

	"embrace/api"
	"embrace/program"
	"embrace/trace"
)

func follow(t *testing.T, text, schedule string) trace.Trace {
	t.Helper()
	p, errno, _ := program.Read(text)
	if errno != api.OK {
		t.Fatalf("%q is no program: %d", text, errno)
	}
	l, ok := trace.Follow(p, schedule)
	if !ok {
		t.Fatalf("%q is no schedule of %q", schedule, text)
	}
	return l
}

func TestReports(t *testing.T) {
	l := follow(t, ">1>2>3;abBA;baABabBA;baAB", "0001111222222223333")
	want := [][]int{{1, 3}, {1, 7}, {5, 7}}
	for _, most := range []int{math.MinInt, -1, 0, 1, 2, 3, 4, 100, math.MaxInt} {
		reports, more := Reports(l, most)
		n := max(0, min(most, len(want)))
		if len(reports) != n || more != (most < len(want)) {
			t.Fatalf("P10: with %d: %v, %v", most, reports, more)
		}
		for k, x := range reports {
			if !slices.Equal(x.Asks, want[k]) || x.Verdict != api.Sure {
				t.Errorf("P10: with %d: report %d is %v, want %v", most, k, x, want[k])
			}
		}
	}
}

func TestNoCircle(t *testing.T) {
	for _, c := range [][2]string{{"", ""}, {"ab", "00"}, {">1>2;abBA;abBA", "0011112222"}} {
		if reports, more := Reports(follow(t, c[0], c[1]), 0); len(reports) != 0 || more {
			t.Errorf("P10: of %q and %q: %v, %v", c[0], c[1], reports, more)
		}
	}
}

func TestShare(t *testing.T) {
	for _, c := range []struct {
		locks, others string
		want          bool
	}{{"", "", false}, {"a", "", false}, {"", "a", false}, {"a", "a", true}, {"a", "b", false}, {"ab", "bc", true}, {"abc", "def", false}, {"af", "bcdef", true}, {"f", "abcde", false}} {
		if share(c.locks, c.others) != c.want {
			t.Errorf("P10: %q and %q", c.locks, c.others)
		}
	}
}
