package pools_test

import (
	"math"
	"testing"

	"bailiwick/api"
	"bailiwick/pools"
	"bailiwick/when"
)

// P4.3: the earliest time, in words.
func TestFirst(t *testing.T) {
	l := list(steps(0, 1, 5, 4, 20, 2), steps(0, 2, 3, 0, 9, 2, 12, 0, 15, 2))
	for _, c := range []struct {
		from, long int64
		n          []int
		t          int64
		ok         bool
	}{
		{0, 1, []int{1, 2}, 0, true}, {0, 3, []int{1, 2}, 0, true}, {0, 4, []int{1, 2}, 15, true}, {1, 3, []int{1, 2}, 9, true},
		{0, 1, []int{2, 1}, 9, true}, {0, 3, []int{4, 2}, 9, true}, {0, 4, []int{4, 2}, 15, true}, {0, 5, []int{4, 2}, 15, true}, {0, 6, []int{4, 2}, 0, false},
		{0, 6, []int{2, 2}, 15, true}, {10, 2, []int{4, 1}, 10, true}, {10, 3, []int{4, 1}, 15, true}, {11, 1, []int{4, 1}, 11, true}, {12, 1, []int{4, 1}, 15, true},
		{16, 4, []int{4, 1}, 16, true}, {17, 4, []int{4, 1}, 0, false}, {17, 4, []int{2, 2}, 17, true}, {20, 1, []int{3, 0}, 0, false},
		{0, 1, []int{0, 0}, 0, true}, {4, 5, []int{0, 0}, 4, true}, {4, 1, []int{0, 1}, 9, true}, {0, 15, []int{4, 0}, 5, true}, {0, 16, []int{4, 0}, 0, false},
		{0, 1, []int{5, 0}, 0, false}, {0, 1, []int{0, 3}, 0, false}, {0, 1, []int{api.MaxFree, api.MaxFree}, 0, false},
		{0, api.Never, []int{2, 2}, 15, true}, {100, math.MaxInt64, []int{2, 2}, 100, true}, {0, api.Never, []int{1, 0}, 0, true}, {0, api.Never, []int{3, 0}, 0, false},
		{api.Never - 1, 1, []int{2, 2}, api.Never - 1, true}, {api.Never - 1, 9, []int{2, 2}, api.Never - 1, true},
	} {
		if got, ok := pools.First(l, c.from, c.long, c.n); got != c.t || ok != c.ok {
			t.Errorf("First(%d, %d, %v) = %d, %v", c.from, c.long, c.n, got, ok)
		}
	}
}

// P4.3: the kinds' first times push one another on; the order of the kinds makes no difference.
func TestFirstInTurns(t *testing.T) {
	a, b, c := steps(0, 0, 2, 1, 4, 0, 7, 1, 9, 0, 12, 1), steps(0, 1, 2, 0, 4, 1, 6, 0, 8, 1), steps(0, 1, 8, 0, 11, 1, 13, 0, 16, 1)
	for _, l := range [][][]api.Step{list(a, b, c), list(a, c, b), list(b, a, c), list(b, c, a), list(c, a, b), list(c, b, a)} {
		for _, x := range []struct{ from, long, t int64 }{{0, 1, 12}, {12, 1, 12}, {0, 2, 16}, {13, 1, 16}, {0, api.Never, 16}} {
			if got, ok := pools.First(l, x.from, x.long, []int{1, 1, 1}); got != x.t || !ok {
				t.Errorf("First(%v, %d, %d) = %d, %v", l, x.from, x.long, got, ok)
			}
		}
	}
	if got, ok := pools.First(list(a, b), 0, 1, []int{1, 1}); got != 8 || !ok {
		t.Error(got, ok)
	}
	if got, ok := pools.First(list(a, steps(0, 1, 2, 0, 4, 1, 7, 0, 9, 1, 12, 0)), 0, 1, []int{1, 1}); got != 0 || ok {
		t.Error("they are never free at once:", got, ok)
	}
}

// P4.3: what is free just before Never, or at Never alone.
func TestFirstBeforeNever(t *testing.T) {
	last := steps(0, 0, api.Never-1, 5)
	for _, c := range []struct {
		l          [][]api.Step
		from, long int64
		t          int64
		ok         bool
	}{
		{list(steps(0, 5), last), 0, 1, api.Never - 1, true}, {list(last, steps(0, 5)), 0, 100, api.Never - 1, true},
		{list(steps(0, 5), steps(0, 0, api.Never, 5)), 0, 1, 0, false}, {list(steps(0, 0, api.Never, 5), steps(0, 5)), 0, 1, 0, false},
		{list(last, steps(0, 5, api.Never-1, 0)), 0, 1, 0, false}, {list(steps(0, 5, api.Never-1, 0), last), 0, 1, 0, false},
		{list(last, steps(0, 5, api.Never, 0)), 0, api.Never, api.Never - 1, true}, {list(steps(0, 5), steps(0, 5, api.Never-1, 0)), 1, api.Never - 2, 1, true},
		{list(steps(0, 5), steps(0, 5, api.Never-1, 0)), 1, api.Never - 1, 0, false},
	} {
		if got, ok := pools.First(c.l, c.from, c.long, []int{5, 5}); got != c.t || ok != c.ok {
			t.Errorf("First(%v, %d, %d) = %d, %v", c.l, c.from, c.long, got, ok)
		}
	}
}

// P4.3: 0 and false of what are no pools, and of an n of another length.
func TestFirstOfNone(t *testing.T) {
	for _, l := range wrong() {
		for length := range 6 {
			if got, ok := pools.First(l, 3, 1, make([]int, length)); got != 0 || ok {
				t.Errorf("First(%v) = %d, %v", l, got, ok)
			}
		}
		if got, ok := pools.First(l, 3, 1, make([]int, len(l))); got != 0 || ok {
			t.Errorf("First(%v) = %d, %v", l, got, ok)
		}
	}
	four := list(steps(0, 4), steps(0, 4), steps(0, 4), steps(0, 4))
	for kinds := 1; kinds <= 4; kinds++ {
		for length := range 7 {
			got, ok := pools.First(four[:kinds], 3, 1, make([]int, length))
			if length == kinds && (got != 3 || !ok) || length != kinds && (got != 0 || ok) {
				t.Errorf("First of %d kinds and %d amounts: %d, %v", kinds, length, got, ok)
			}
		}
		if got, ok := pools.First(four[:kinds], 3, 1, nil); got != 0 || ok {
			t.Errorf("First of %d kinds and no amounts: %d, %v", kinds, got, ok)
		}
	}
}

// P4.3: 0 and false where step.First refuses what is asked of a kind, at any place.
func TestFirstRefused(t *testing.T) {
	four := list(steps(0, 4), steps(0, api.MaxFree), steps(0, 4, 9, 5), steps(0, api.MaxFree))
	fails := func(l [][]api.Step, from, long int64, n []int) {
		t.Helper()
		if got, ok := pools.First(l, from, long, n); got != 0 || ok {
			t.Errorf("First(%v, %d, %d, %v) = %d, %v", l, from, long, n, got, ok)
		}
	}
	for kinds := 1; kinds <= 4; kinds++ {
		l, n := four[:kinds], make([]int, kinds)
		for _, from := range append(noTimes(), api.Never) {
			fails(l, from, 1, n)
		}
		for _, long := range []int64{0, -1, -api.Never, math.MinInt64} {
			fails(l, 3, long, n)
		}
		for place := range kinds {
			for _, no := range noAmounts() {
				odd := make([]int, kinds)
				odd[place] = no
				fails(l, 3, 1, odd)
			}
		}
	}
}

// P4.3, P4.4: what First tells holds, and nothing earlier does, of one kind to four, from 0 on and up to Never.
func TestFirstTimeByTime(t *testing.T) {
	for _, ticks := range times() {
		for kinds := 1; kinds <= 4; kinds++ {
			for _, tab := range tables(kinds, rows(ticks, 0, 2)) {
				l := tab.pools()
				for _, from := range append(ticks[:], 7, 100) {
					if from == api.Never {
						continue
					}
					for _, long := range []int64{1, 2, 3, 4, 9, api.Never, math.MaxInt64} {
						for _, n := range [][]int{{0, 1, 2, 0}, {1, 0, 1, 2}, {2, 2, 0, 1}, {1, 3, 0, 0}, {2, 1, 1, 1}} {
							checkFirst(t, tab, l, from, long, n[:kinds])
						}
					}
				}
			}
		}
	}
}

// checkFirst holds First against the table's own, and what it tells against Take.
func checkFirst(t *testing.T, tab table, l [][]api.Step, from, long int64, n []int) {
	t.Helper()
	want, found := tab.start(from, long, n)
	got, ok := pools.First(l, from, long, n)
	if got != want || ok != found {
		t.Fatalf("First(%v, %d, %d, %v) = %d, %v, not %d, %v", l, from, long, n, got, ok, want, found)
	}
	if !ok {
		return
	}
	to := when.Plus(got, long)
	less, e := pools.Take(l, got, to, n)
	if e != api.OK || !pools.Right(less) {
		t.Fatalf("Take(%v, %d, %d, %v) = %v, %v", l, got, to, n, less, e)
	}
	if back, e := pools.Give(less, got, to, n); e != api.OK || !equal(back, l) {
		t.Fatalf("Give back to %v: %v, %v, not %v", less, back, e, l)
	}
}

// P4.3: four full profiles that push one another on from step to step, up to the last one.
func TestFirstOfStairs(t *testing.T) {
	var l [][]api.Step
	for k := range int64(4) {
		p := steps(0, k%2)
		// Each kind lacks one at another time of four, by turns, and all of them have it at the last step alone.
		for i := 1; i < api.MaxSteps-1; i++ {
			p = append(p, api.Step{At: int64(i)*10 + k, Free: (int(k) + i) % 2})
		}
		p = append(p, api.Step{At: 10230, Free: 2 + int(k)})
		l = append(l, p)
	}
	if !pools.Right(l) {
		t.Fatal("no pools")
	}
	for _, c := range []struct {
		from, long int64
		n          []int
		t          int64
		ok         bool
	}{
		{0, 1, []int{2, 3, 4, 5}, 10230, true}, {0, 20, []int{1, 1, 1, 1}, 10230, true}, {0, api.Never, []int{1, 0, 1, 0}, 10230, true}, {0, 1, []int{2, 3, 4, 6}, 0, false},
		{0, 9, []int{1, 0, 1, 0}, 10230, true}, {0, 8, []int{1, 0, 1, 0}, 12, true}, {13, 8, []int{1, 0, 1, 0}, 32, true}, {0, 1, []int{1, 1, 0, 0}, 10, true}, {11, 1, []int{1, 1, 0, 0}, 30, true},
	} {
		if got, ok := pools.First(l, c.from, c.long, c.n); got != c.t || ok != c.ok {
			t.Errorf("First(%d, %d, %v) = %d, %v", c.from, c.long, c.n, got, ok)
		}
	}
}
