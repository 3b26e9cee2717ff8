package job_test

import (
	"slices"
	"testing"

	"bailiwick/api"
	"bailiwick/job"
)

// Rule 3: what is handed in stays, its spare room too, and an answer is new memory, beside an error as well.
func TestNewMemory(t *testing.T) {
	for _, j := range append(eachState(), wrong()...) {
		for _, needs := range [][]int{{2, 8}, {2}, {}, {8, 2}} {
			for what := 0; what <= 8; what++ {
				room := append(slices.Clone(needs), 66, 67, 68)
				kept := slices.Clone(room)
				j.Needs = room[:len(needs)]
				got, e := job.Do(j, what, 9)
				if !slices.Equal(got.Needs, needs) {
					t.Fatalf("Do(%+v, %d, 9) needs %v", j, what, got.Needs)
				}
				spoilt := append(got.Needs, 99)
				for k := range spoilt[:cap(spoilt)] {
					spoilt[:cap(spoilt)][k] = -99
				}
				for k := range got.Needs {
					got.Needs[k] = -98
				}
				if !slices.Equal(room, kept) {
					t.Fatalf("Do(%+v, %d, 9), %v: what is handed in is changed", j, what, e)
				}
			}
		}
	}
}

// Rule 3: Right leaves what is handed in as it is.
func TestRightChangesNothing(t *testing.T) {
	room := []int{2, 8, 66, 67}
	j := fresh()
	j.Needs = room[:2]
	if was := j; !job.Right(j) || !same(j, was) || !slices.Equal(room, []int{2, 8, 66, 67}) {
		t.Error("changed:", j, room)
	}
}

// Rule 3: nothing is kept: what is done with the one job doesn't show in what is done with it again.
func TestNothingIsKept(t *testing.T) {
	first, _ := job.Do(fresh(), api.DoStart, 5)
	first.Needs[0] = -99
	again, e := job.Do(fresh(), api.DoStart, 6)
	if e != api.OK || again.From != 6 || !slices.Equal(again.Needs, fresh().Needs) {
		t.Error(again, e)
	}
}
