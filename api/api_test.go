package api

import (
	"slices"
	"testing"
)

// Callers keep and compare these numbers, so they stay as the document has them.
func TestNumbers(t *testing.T) {
	if got := []Errno{OK, ErrLong, ErrText, ErrMany, ErrThread, ErrSchedule, ErrArg}; !slices.Equal(got, []Errno{0, 1, 2, 3, 4, 5, 6}) {
		t.Errorf("the errors are %v", got)
	}
	if got := []int{Unborn, Ready, Wants, Joins, Ended, Faulted}; !slices.Equal(got, []int{0, 1, 2, 3, 4, 5}) {
		t.Errorf("P6: the threads' states are %v", got)
	}
	if got := []int{Done, Stuck, Fault}; !slices.Equal(got, []int{1, 2, 3}) {
		t.Errorf("P5: the ends of a run are %v", got)
	}
	if got := []int{MaxText, MaxThreads, MaxSteps}; !slices.Equal(got, []int{160, 5, 12}) {
		t.Errorf("P3: the bounds are %v", got)
	}
}
