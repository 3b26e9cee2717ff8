package step_test

import (
	"math"
	"slices"
	"testing"

	"bailiwick/api"
	"bailiwick/step"
)

// steps is a profile, or none, of times and what is free from them on, by turns.
func steps(pairs ...int64) []api.Step {
	var p []api.Step
	for i := 0; i < len(pairs); i += 2 {
		p = append(p, api.Step{At: pairs[i], Free: int(pairs[i+1])})
	}
	return p
}

// stairs has so many steps, one at each time that divides by 10, where 5 and 6 are free by turns.
func stairs(count int) []api.Step {
	var p []api.Step
	for i := range count {
		p = append(p, api.Step{At: int64(i) * 10, Free: 5 + i%2})
	}
	return p
}

// wrong are lists that are no profiles.
func wrong() [][]api.Step {
	never := int64(api.Never)
	return [][]api.Step{
		nil, {}, steps(1, 4), steps(-1, 4), steps(never, 4), steps(0, -1), steps(0, api.MaxFree+1),
		steps(0, math.MinInt64), steps(0, math.MaxInt64), steps(math.MinInt64, 0),
		steps(0, 4, 0, 5), steps(0, 4, 3, 4), steps(0, 4, 3, 5, 3, 6), steps(0, 4, 3, 5, 2, 6), steps(0, 4, -1, 5),
		steps(0, 4, 3, 5, 9, 5), steps(0, 4, 3, 5, 9, -1), steps(0, 4, 3, api.MaxFree+1), steps(0, 4, 3, api.MaxFree+1, 9, 4),
		steps(0, 4, never+1, 5), steps(0, 4, math.MaxInt64, 5), steps(0, 4, never, 5, never+1, 4), steps(0, 4, 9, 5, 0, 4),
		steps(0, 0, 1, 0), steps(0, api.MaxFree, 1, api.MaxFree), stairs(api.MaxSteps + 1), stairs(api.MaxSteps * 2),
	}
}

// noSpans are spans that are empty, or of which one end is no time.
func noSpans() [][2]int64 {
	return [][2]int64{
		{5, 5}, {0, 0}, {5, 4}, {9, 0}, {api.Never, api.Never}, {api.Never, 0}, {-1, 5}, {-5, -1}, {math.MinInt64, 5}, {-1, 0},
		{0, api.Never + 1}, {5, math.MaxInt64}, {api.Never, api.Never + 1}, {api.Never + 1, api.Never + 2},
		{math.MinInt64, math.MaxInt64}, {math.MaxInt64, math.MinInt64}, {5, -1}, {5, math.MinInt64},
	}
}

// noAmounts are numbers of which so many can't be free.
func noAmounts() []int { return []int{-1, -4, api.MaxFree + 1, math.MinInt, math.MaxInt} }

// P3.1: is it a profile?
func TestRight(t *testing.T) {
	for _, p := range [][]api.Step{
		steps(0, 0), steps(0, 4), steps(0, api.MaxFree), steps(0, 0, 1, api.MaxFree, 2, 0), steps(0, 4, 2, 1, 5, 4),
		steps(0, 4, api.Never, 5), steps(0, 1, api.Never-1, 2, api.Never, 1), stairs(2), stairs(api.MaxSteps - 1), stairs(api.MaxSteps),
	} {
		if !step.Right(p) {
			t.Errorf("Right(%v) is false", p)
		}
	}
	for _, p := range wrong() {
		if step.Right(p) {
			t.Errorf("Right(%v) is true", p)
		}
	}
}

// P3.1: the profile of which so much is always free.
func TestNew(t *testing.T) {
	for _, free := range []int{0, 1, 4, api.MaxFree - 1, api.MaxFree} {
		if p, e := step.New(free); e != api.OK || !slices.Equal(p, steps(0, int64(free))) {
			t.Errorf("New(%d) = %v, %v", free, p, e)
		}
	}
	for _, free := range noAmounts() {
		if p, e := step.New(free); e != api.ErrArg || len(p) > 0 {
			t.Errorf("New(%d) = %v, %v", free, p, e)
		}
	}
}

// P3.1: what is free at a time, at the steps' edges too.
func TestAt(t *testing.T) {
	p := steps(0, 4, 2, 1, 5, 4, api.Never-1, 7, api.Never, 9)
	for _, c := range []struct {
		t    int64
		want int
	}{
		{0, 4}, {1, 4}, {2, 1}, {3, 1}, {4, 1}, {5, 4}, {6, 4}, {1 << 40, 4}, {api.Never - 2, 4}, {api.Never - 1, 7}, {api.Never, 9},
		{-1, 0}, {math.MinInt64, 0}, {api.Never + 1, 0}, {math.MaxInt64, 0},
	} {
		if got := step.At(p, c.t); got != c.want {
			t.Errorf("At(%d) = %d, not %d", c.t, got, c.want)
		}
	}
	for i := range api.MaxSteps {
		if got := step.At(stairs(api.MaxSteps), int64(i)*10+9); got != 5+i%2 {
			t.Fatalf("At step %d: %d", i, got)
		}
	}
	for _, p := range wrong() {
		for _, at := range []int64{0, 1, 3, api.Never} {
			if got := step.At(p, at); got != 0 {
				t.Errorf("At(%v, %d) = %d", p, at, got)
			}
		}
	}
}

// P3.1: the least in a span, its end not counted in.
func TestLeast(t *testing.T) {
	p := steps(0, 4, 2, 1, 5, 6, 9, 3, api.Never, 0)
	for _, c := range []struct {
		from, to int64
		want     int
	}{
		{0, 1, 4}, {0, 2, 4}, {1, 2, 4}, {0, 3, 1}, {1, 3, 1}, {2, 3, 1}, {2, 5, 1}, {3, 6, 1}, {4, 5, 1}, {5, 6, 6}, {5, 9, 6}, {8, 9, 6},
		{5, 10, 3}, {8, 10, 3}, {4, 10, 1}, {9, 10, 3}, {9, api.Never, 3}, {0, api.Never, 1}, {6, api.Never, 3}, {api.Never - 1, api.Never, 3},
	} {
		if got, e := step.Least(p, c.from, c.to); got != c.want || e != api.OK {
			t.Errorf("Least(%d, %d) = %d, %v, not %d", c.from, c.to, got, e, c.want)
		}
	}
	if got, e := step.Least(steps(0, api.MaxFree), 0, api.Never); got != api.MaxFree || e != api.OK {
		t.Error("the least of MaxFree:", got, e)
	}
	for _, c := range noSpans() {
		if got, e := step.Least(p, c[0], c[1]); got != 0 || e != api.ErrArg {
			t.Errorf("Least(%d, %d) = %d, %v", c[0], c[1], got, e)
		}
	}
	for _, p := range wrong() {
		if got, e := step.Least(p, 0, 5); got != 0 || e != api.ErrArg {
			t.Errorf("Least(%v) = %d, %v", p, got, e)
		}
	}
}

// P3.1: At and Least of all small windows, and of those before Never, time by time.
func TestLeastTimeByTime(t *testing.T) {
	for _, w := range windows(0, 1, 2) {
		p := w.profile()
		if !step.Right(p) {
			t.Fatalf("Right(%v) is false", p)
		}
		for _, from := range w.times() {
			if got := step.At(p, from); got != w.free(from) {
				t.Fatalf("At(%v, %d) = %d", p, from, got)
			}
			for _, to := range append(w.times(), w.first/2+1, api.Never) {
				if from >= to {
					continue
				}
				want, _ := w.least(from, to)
				if got, e := step.Least(p, from, to); got != want || e != api.OK {
					t.Fatalf("Least(%v, %d, %d) = %d, %v, not %d", p, from, to, got, e, want)
				}
			}
		}
	}
}

// P3.3: the earliest time, in words.
func TestFirst(t *testing.T) {
	p := steps(0, 4, 2, 1, 5, 4, 7, 2, 8, 6)
	for _, c := range []struct {
		from, long int64
		n          int
		t          int64
		ok         bool
	}{
		{0, 1, 4, 0, true}, {0, 2, 4, 0, true}, {0, 3, 4, 8, true}, {1, 1, 4, 1, true}, {1, 2, 4, 5, true}, {1, 2, 3, 5, true}, {2, 2, 4, 5, true}, {2, 3, 4, 8, true},
		{4, 1, 1, 4, true}, {4, 1, 2, 5, true}, {5, 3, 2, 5, true}, {6, 1, 4, 6, true}, {6, 2, 4, 8, true}, {7, 1, 6, 8, true}, {0, 1, 6, 8, true},
		{0, api.Never, 1, 0, true}, {0, api.Never, 2, 5, true}, {0, api.Never, 4, 8, true}, {3, math.MaxInt64, 2, 5, true}, {100, math.MaxInt64, 6, 100, true},
		{0, 1, 0, 0, true}, {3, api.Never, 0, 3, true}, {api.Never - 1, 1, 6, api.Never - 1, true}, {api.Never - 1, 5, 6, api.Never - 1, true},
		{0, 1, 7, 0, false}, {0, 1, api.MaxFree, 0, false}, {api.Never - 1, 1, 7, 0, false},
	} {
		if got, ok := step.First(p, c.from, c.long, c.n); got != c.t || ok != c.ok {
			t.Errorf("First(%d, %d, %d) = %d, %v", c.from, c.long, c.n, got, ok)
		}
	}
}

// P3.3: what is free just before Never, or at Never alone.
func TestFirstBeforeNever(t *testing.T) {
	for _, c := range []struct {
		p          []api.Step
		from, long int64
		t          int64
		ok         bool
	}{
		{steps(0, 0, api.Never, 5), 0, 1, 0, false}, {steps(0, 0, api.Never, 5), api.Never - 1, 1, 0, false},
		{steps(0, 0, api.Never-1, 5), 0, 1, api.Never - 1, true}, {steps(0, 0, api.Never-1, 5), 0, 100, api.Never - 1, true},
		{steps(0, 0, api.Never-1, 5, api.Never, 0), 0, 100, api.Never - 1, true}, {steps(0, 5, api.Never, 0), 7, api.Never, 7, true},
		{steps(0, 5, api.Never-1, 0), 0, api.Never - 1, 0, true}, {steps(0, 5, api.Never-1, 0), 0, api.Never, 0, false},
		{steps(0, 5, api.Never-1, 0), 1, api.Never - 1, 0, false}, {steps(0, 5, api.Never-1, 0), 1, api.Never - 2, 1, true},
	} {
		if got, ok := step.First(c.p, c.from, c.long, 5); got != c.t || ok != c.ok {
			t.Errorf("First(%v, %d, %d) = %d, %v", c.p, c.from, c.long, got, ok)
		}
	}
}

// P3.3: 0 and false at what may not be.
func TestFirstOfNone(t *testing.T) {
	p := steps(0, 4, 2, 1, 5, 4)
	fails := func(p []api.Step, from, long int64, n int) {
		t.Helper()
		if got, ok := step.First(p, from, long, n); got != 0 || ok {
			t.Errorf("First(%v, %d, %d, %d) = %d, %v", p, from, long, n, got, ok)
		}
	}
	for _, p := range wrong() {
		fails(p, 0, 1, 0)
		fails(p, 3, 2, 1)
	}
	for _, from := range []int64{-1, -5, math.MinInt64, api.Never, api.Never + 1, math.MaxInt64} {
		fails(p, from, 1, 0)
		fails(p, from, 2, 4)
	}
	for _, long := range []int64{0, -1, -api.Never, math.MinInt64} {
		fails(p, 0, long, 0)
		fails(p, 1, long, 4)
	}
	for _, n := range noAmounts() {
		fails(p, 0, 1, n)
	}
}

// P3.3, P3.4: what First tells holds, and nothing earlier does: each time is tried, in all small windows and those before Never.
func TestFirstTimeByTime(t *testing.T) {
	for _, w := range windows(0, 1, 2) {
		p := w.profile()
		for k := range int64(wide) {
			from := w.first + k
			if from == api.Never {
				continue
			}
			for _, long := range []int64{1, 2, 3, 4, wide, wide + 1, api.Never - wide, api.Never, math.MaxInt64} {
				for n := range 4 {
					want, found := w.start(from, long, n)
					if got, ok := step.First(p, from, long, n); got != want || ok != found {
						t.Fatalf("First(%v, %d, %d, %d) = %d, %v, not %d, %v", p, from, long, n, got, ok, want, found)
					}
				}
			}
		}
	}
}

// P3.3: in a long profile, by the least of each span.
func TestFirstOfStairs(t *testing.T) {
	p := stairs(api.MaxSteps)
	p[700].Free, p[701].Free, p[702].Free = 9, 8, 9
	for _, c := range []struct {
		from, long int64
		n          int
		t          int64
		ok         bool
	}{
		{0, 10, 6, 10, true}, {0, 11, 6, 6990, true}, {0, 10, 7, 7000, true}, {0, 30, 8, 7000, true}, {0, 31, 8, 0, false}, {7005, 25, 8, 7005, true},
		{7005, 11, 9, 0, false}, {7005, 10, 9, 7020, true}, {7021, 1, 7, 7021, true}, {7030, 1, 7, 0, false}, {0, 11, 9, 0, false}, {15, 10, 6, 30, true}, {7031, 11, 6, 10230, true}, {0, api.Never, 6, 10230, true},
	} {
		if got, ok := step.First(p, c.from, c.long, c.n); got != c.t || ok != c.ok {
			t.Errorf("First(%d, %d, %d) = %d, %v", c.from, c.long, c.n, got, ok)
		}
	}
}
