package pools_test

import (
	"math"
	"slices"
	"testing"

	"bailiwick/api"
	"bailiwick/pools"
)

// wrongProfiles are lists of steps that are no profiles.
func wrongProfiles() [][]api.Step {
	return [][]api.Step{
		nil, {}, steps(1, 4), steps(-1, 4), steps(0, -1), steps(0, api.MaxFree+1), steps(0, 4, 0, 5), steps(0, 4, 3, 4),
		steps(0, 4, 3, 5, 2, 6), steps(0, 4, api.Never+1, 5), steps(0, 4, 3, api.MaxFree+1), stairs(api.MaxSteps + 1),
	}
}

// wrong are lists of profiles that are no pools: too few, too many, and with one at each place that is no profile.
func wrong() [][][]api.Step {
	four := list(steps(0, 4), steps(0, 0, 5, 2), steps(0, 9), steps(0, 4))
	five := append(deep(four), steps(0, 1))
	out := [][][]api.Step{nil, {}, five, append(deep(five), five...), make([][]api.Step, 4), make([][]api.Step, 300)}
	for kinds := 1; kinds <= 4; kinds++ {
		for place := range kinds {
			for _, p := range wrongProfiles() {
				l := deep(four[:kinds])
				l[place] = p
				out = append(out, l)
			}
		}
	}
	return out
}

// noAmounts are numbers of which so many can't be free.
func noAmounts() []int { return []int{-1, -4, api.MaxFree + 1, math.MinInt, math.MaxInt} }

// noTimes are numbers that are no times.
func noTimes() []int64 { return []int64{-1, -5, math.MinInt64, api.Never + 1, math.MaxInt64} }

// P4.1: are they pools?
func TestRight(t *testing.T) {
	p := steps(0, 4, 2, 1, 5, 4)
	for _, l := range [][][]api.Step{
		list(p), list(p, p), list(p, p, p), list(p, p, p, p), list(steps(0, 0)), list(steps(0, api.MaxFree), steps(0, 0)),
		list(steps(0, 4), p, steps(0, 0, api.Never, 7)), list(stairs(api.MaxSteps)),
		list(stairs(api.MaxSteps), stairs(api.MaxSteps), stairs(api.MaxSteps), stairs(api.MaxSteps)),
	} {
		if !pools.Right(l) {
			t.Errorf("Right(%v) is false", l)
		}
	}
	for _, l := range wrong() {
		if pools.Right(l) {
			t.Errorf("Right(%v) is true", l)
		}
	}
}

// P4.1: of each kind so much is always free.
func TestNew(t *testing.T) {
	for _, c := range []struct {
		free []int
		want [][]api.Step
	}{
		{[]int{0}, list(steps(0, 0))}, {[]int{api.MaxFree}, list(steps(0, api.MaxFree))}, {[]int{4, 2}, list(steps(0, 4), steps(0, 2))},
		{[]int{2, 2}, list(steps(0, 2), steps(0, 2))}, {[]int{1, 0, api.MaxFree}, list(steps(0, 1), steps(0, 0), steps(0, api.MaxFree))},
		{[]int{4, 3, 2, 1}, list(steps(0, 4), steps(0, 3), steps(0, 2), steps(0, 1))},
	} {
		if l, e := pools.New(c.free); e != api.OK || !equal(l, c.want) || !pools.Right(l) {
			t.Errorf("New(%v) = %v, %v", c.free, l, e)
		}
	}
}

// P4.1: ErrArg of too few kinds, of too many, and of one at any place that step.New refuses.
func TestNewOfNone(t *testing.T) {
	frees := [][]int{nil, {}, {1, 2, 3, 4, 5}, make([]int, 6), make([]int, 300)}
	for kinds := 1; kinds <= 4; kinds++ {
		for place := range kinds {
			for _, n := range noAmounts() {
				free := []int{3, 0, api.MaxFree, 1}[:kinds]
				free[place] = n
				frees = append(frees, free)
			}
		}
	}
	for _, free := range frees {
		if l, e := pools.New(free); e != api.ErrArg || len(l) > 0 {
			t.Errorf("New(%v) = %v, %v", free, l, e)
		}
	}
}

// P4.1: of each kind what is free at a time, at the steps' edges too; of no time noughts, as step.At says.
func TestAt(t *testing.T) {
	l := list(steps(0, 4, 2, 1, 5, 4), steps(0, 2, 5, 0, api.Never, 9), steps(0, 7))
	for _, c := range []struct {
		t    int64
		want []int
	}{
		{0, []int{4, 2, 7}}, {1, []int{4, 2, 7}}, {2, []int{1, 2, 7}}, {4, []int{1, 2, 7}}, {5, []int{4, 0, 7}}, {6, []int{4, 0, 7}},
		{api.Never - 1, []int{4, 0, 7}}, {api.Never, []int{4, 9, 7}},
	} {
		if got := pools.At(l, c.t); !slices.Equal(got, c.want) {
			t.Errorf("At(%d) = %v, not %v", c.t, got, c.want)
		}
		if got := pools.At(l[1:2], c.t); !slices.Equal(got, c.want[1:2]) {
			t.Errorf("At(%d) of one kind = %v", c.t, got)
		}
	}
	for _, at := range noTimes() {
		if got := pools.At(l, at); !slices.Equal(got, []int{0, 0, 0}) {
			t.Errorf("At(%d) = %v", at, got)
		}
	}
}

// P4.1: nothing is free of what are no pools.
func TestAtOfNone(t *testing.T) {
	for _, l := range wrong() {
		for _, at := range append(noTimes(), 0, 1, 5, api.Never) {
			if got := pools.At(l, at); len(got) > 0 {
				t.Errorf("At(%v, %d) = %v", l, at, got)
			}
		}
	}
}

// P4.1: At of all small tables, time by time, from 0 on and up to Never.
func TestAtTimeByTime(t *testing.T) {
	for _, ticks := range times() {
		for kinds := 1; kinds <= 4; kinds++ {
			for _, tab := range tables(kinds, rows(ticks, 0, 3)) {
				l := tab.pools()
				for _, at := range append(ticks[:], 4, 7, 10) {
					var want []int
					for _, r := range tab {
						want = append(want, r.at(at))
					}
					if got := pools.At(l, at); !slices.Equal(got, want) {
						t.Fatalf("At(%v, %d) = %v, not %v", l, at, got, want)
					}
				}
			}
		}
	}
}
