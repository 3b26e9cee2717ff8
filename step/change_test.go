package step_test

import (
	"math"
	"slices"
	"testing"

	"bailiwick/api"
	"bailiwick/step"
)

// change is Take or Give.
type change func(p []api.Step, from, to int64, n int) ([]api.Step, api.Errno)

// changes are both, by name.
func changes() map[string]change {
	return map[string]change{"Take": step.Take, "Give": step.Give}
}

// P3.2: less, or more, is free in a span, and what is the same is one step.
func TestTakeGive(t *testing.T) {
	p := steps(0, 4, 2, 1, 5, 4)
	for _, c := range []struct {
		name     string
		from, to int64
		n        int
		want     []api.Step
	}{
		{"Take", 0, 1, 4, steps(0, 0, 1, 4, 2, 1, 5, 4)},
		{"Take", 0, 2, 4, steps(0, 0, 2, 1, 5, 4)},
		{"Take", 0, 2, 3, steps(0, 1, 5, 4)},
		{"Take", 1, 2, 3, steps(0, 4, 1, 1, 5, 4)},
		{"Take", 1, 6, 1, steps(0, 4, 1, 3, 2, 0, 5, 3, 6, 4)},
		{"Take", 2, 5, 1, steps(0, 4, 2, 0, 5, 4)},
		{"Take", 3, 4, 1, steps(0, 4, 2, 1, 3, 0, 4, 1, 5, 4)},
		{"Take", 5, 6, 3, steps(0, 4, 2, 1, 6, 4)},
		{"Take", 9, api.Never, 4, steps(0, 4, 2, 1, 5, 4, 9, 0, api.Never, 4)},
		{"Take", 0, api.Never, 1, steps(0, 3, 2, 0, 5, 3, api.Never, 4)},
		{"Give", 0, 1, 4, steps(0, 8, 1, 4, 2, 1, 5, 4)},
		{"Give", 2, 5, 3, steps(0, 4)},
		{"Give", 2, 4, 3, steps(0, 4, 4, 1, 5, 4)},
		{"Give", 3, 5, 3, steps(0, 4, 2, 1, 3, 4)},
		{"Give", 1, 6, 2, steps(0, 4, 1, 6, 2, 3, 5, 6, 6, 4)},
		{"Give", api.Never - 1, api.Never, 2, steps(0, 4, 2, 1, 5, 4, api.Never-1, 6, api.Never, 4)},
		{"Give", 0, api.Never, 1, steps(0, 5, 2, 2, 5, 5, api.Never, 4)},
		{"Give", 0, 2, api.MaxFree - 4, steps(0, api.MaxFree, 2, 1, 5, 4)},
	} {
		q, e := changes()[c.name](p, c.from, c.to, c.n)
		if e != api.OK || !slices.Equal(q, c.want) {
			t.Errorf("%s(%d, %d, %d) = %v, %v, not %v", c.name, c.from, c.to, c.n, q, e, c.want)
		}
	}
}

// P3.2: what is free at Never stays, since no span has it; and a step there goes where it says nothing new.
func TestChangeAtNever(t *testing.T) {
	p := steps(0, 3, api.Never, 5)
	for _, c := range []struct {
		name     string
		from, to int64
		n        int
		want     []api.Step
	}{
		{"Take", 0, api.Never, 3, steps(0, 0, api.Never, 5)}, {"Give", 0, api.Never, 2, steps(0, 5)},
		{"Give", 7, api.Never, 2, steps(0, 3, 7, 5)}, {"Give", 7, api.Never - 1, 2, steps(0, 3, 7, 5, api.Never-1, 3, api.Never, 5)},
	} {
		q, e := changes()[c.name](p, c.from, c.to, c.n)
		if e != api.OK || !slices.Equal(q, c.want) {
			t.Errorf("%s(%d, %d, %d) = %v, %v, not %v", c.name, c.from, c.to, c.n, q, e, c.want)
		}
	}
}

// P3.2: nothing taken or given changes nothing, a full profile's steps neither.
func TestChangeByNothing(t *testing.T) {
	for _, p := range [][]api.Step{steps(0, 0), steps(0, api.MaxFree), steps(0, 4, 2, 1, 5, 4), stairs(api.MaxSteps)} {
		for name, f := range changes() {
			for _, s := range [][2]int64{{0, 1}, {1, 3}, {2, 5}, {4, api.Never}, {0, api.Never}} {
				if q, e := f(p, s[0], s[1], 0); e != api.OK || !slices.Equal(q, p) {
					t.Errorf("%s of 0 from %d to %d: %v, %v", name, s[0], s[1], q, e)
				}
			}
		}
	}
}

// P3.2: the errors, and beside them the profile as it is.
func TestChangeErrors(t *testing.T) {
	p := steps(0, 4, 2, 1, 5, 4)
	same := func(name string, p []api.Step, from, to int64, n int, want api.Errno) {
		t.Helper()
		if q, e := changes()[name](p, from, to, n); e != want || !slices.Equal(q, p) {
			t.Errorf("%s(%v, %d, %d, %d) = %v, %v, not %v", name, p, from, to, n, q, e, want)
		}
	}
	for name := range changes() {
		for _, w := range wrong() {
			same(name, w, 0, 5, 1, api.ErrArg)
			same(name, w, 0, 5, 0, api.ErrArg)
		}
		for _, s := range noSpans() {
			same(name, p, s[0], s[1], 1, api.ErrArg)
			same(name, p, s[0], s[1], 0, api.ErrArg)
			same(name, p, s[0], s[1], api.MaxFree, api.ErrArg)
		}
		for _, n := range noAmounts() {
			same(name, p, 0, 5, n, api.ErrArg)
			same(name, steps(0, 0), 0, 1, n, api.ErrArg)
			same(name, steps(0, api.MaxFree), 0, 1, n, api.ErrArg)
		}
	}
	same("Take", p, 0, 2, 5, api.ErrFull)
	same("Take", p, 0, 3, 2, api.ErrFull)
	same("Take", p, 4, 6, 2, api.ErrFull)
	same("Take", p, 2, 5, 2, api.ErrFull)
	same("Take", p, 0, api.Never, 2, api.ErrFull)
	same("Take", p, 0, 1, api.MaxFree, api.ErrFull)
	same("Take", steps(0, 3, api.Never, 5), 0, api.Never, 4, api.ErrFull)
	same("Give", p, 0, 2, api.MaxFree-3, api.ErrOver)
	same("Give", p, 0, 3, api.MaxFree-3, api.ErrOver)
	same("Give", p, 4, 6, api.MaxFree-3, api.ErrOver)
	same("Give", p, 2, 5, api.MaxFree, api.ErrOver)
	same("Give", p, 0, api.Never, api.MaxFree, api.ErrOver)
	same("Give", steps(0, api.MaxFree), 3, 4, 1, api.ErrOver)
}

// P3.2: as many steps as may be, and one or two more; what else is wrong is told ahead of that.
func TestChangeLong(t *testing.T) {
	full, near := stairs(api.MaxSteps), stairs(api.MaxSteps-1)
	for _, c := range []struct {
		name     string
		p        []api.Step
		from, to int64
		n        int
		e        api.Errno
		steps    int
	}{
		{"Take", full, 0, 10, 1, api.OK, api.MaxSteps},
		{"Take", full, 10, 20, 1, api.OK, api.MaxSteps - 2},
		{"Take", full, 10, 30, 5, api.OK, api.MaxSteps},
		{"Take", full, 3, 10, 1, api.ErrLong, 0},
		{"Take", full, 0, 3, 1, api.ErrLong, 0},
		{"Take", full, 3, 7, 1, api.ErrLong, 0},
		{"Take", full, 13, 20, 1, api.OK, api.MaxSteps},
		{"Take", full, 10, 13, 1, api.OK, api.MaxSteps},
		{"Take", full, 13, 17, 1, api.ErrLong, 0},
		{"Take", full, 0, api.Never, 1, api.ErrLong, 0},
		{"Take", full, 10230, api.Never, 1, api.OK, api.MaxSteps},
		{"Take", full, 3, 7, 6, api.ErrFull, 0},
		{"Give", full, 0, 10, 1, api.OK, api.MaxSteps - 1},
		{"Give", full, 20, 30, 1, api.OK, api.MaxSteps - 2},
		{"Give", full, 3, 7, 1, api.ErrLong, 0},
		{"Give", full, 3, 10, 1, api.OK, api.MaxSteps},
		{"Give", full, 3, 10, 2, api.ErrLong, 0},
		{"Give", full, 13, api.Never, 1, api.ErrLong, 0},
		{"Give", full, 3, 7, api.MaxFree, api.ErrOver, 0},
		{"Take", near, 3, 10, 1, api.OK, api.MaxSteps},
		{"Take", near, 3, 7, 1, api.ErrLong, 0},
		{"Give", near, 3, 10, 2, api.OK, api.MaxSteps},
		{"Give", near, 3, 7, 1, api.ErrLong, 0},
		{"Give", near, 0, api.Never, 1, api.OK, api.MaxSteps},
		{"Give", stairs(api.MaxSteps - 2), 3, 7, 1, api.OK, api.MaxSteps},
	} {
		q, e := changes()[c.name](c.p, c.from, c.to, c.n)
		if e != c.e || e == api.OK && (len(q) != c.steps || !step.Right(q)) || e != api.OK && !slices.Equal(q, c.p) {
			t.Errorf("%s of %d steps (%d, %d, %d): %d steps, %v", c.name, len(c.p), c.from, c.to, c.n, len(q), e)
		}
	}
}

// P3.2, P3.4: all small windows, and those before Never, time by time; and what is taken comes back by Give, what is given by Take.
func TestChangeTimeByTime(t *testing.T) {
	for _, w := range append(windows(0, 1, 2), windows(0, 1, api.MaxFree-1, api.MaxFree)...) {
		p := w.profile()
		for _, from := range w.times() {
			for _, to := range append(w.times(), api.Never) {
				if from >= to || to == api.Never && w.first == 0 { // the end of a window at 0 isn't where Never is
					continue
				}
				for _, n := range []int{0, 1, 2, 3, api.MaxFree - 1, api.MaxFree} {
					checkChange(t, w, p, from, to, n)
				}
			}
		}
	}
}

// checkChange holds Take and Give of n in the span against the window's own.
func checkChange(t *testing.T, w window, p []api.Step, from, to int64, n int) {
	t.Helper()
	least, most := w.least(from, to)
	less, e := step.Take(p, from, to, n)
	if n > least {
		if e != api.ErrFull || !slices.Equal(less, p) {
			t.Fatalf("Take(%v, %d, %d, %d) = %v, %v", p, from, to, n, less, e)
		}
	} else {
		if e != api.OK || !slices.Equal(less, w.plus(from, to, -n).profile()) {
			t.Fatalf("Take(%v, %d, %d, %d) = %v, %v", p, from, to, n, less, e)
		}
		if back, e := step.Give(less, from, to, n); e != api.OK || !slices.Equal(back, p) {
			t.Fatalf("Give back to %v: %v, %v, not %v", less, back, e, p)
		}
	}
	more, e := step.Give(p, from, to, n)
	if n > api.MaxFree-most {
		if e != api.ErrOver || !slices.Equal(more, p) {
			t.Fatalf("Give(%v, %d, %d, %d) = %v, %v", p, from, to, n, more, e)
		}
		return
	}
	if e != api.OK || !slices.Equal(more, w.plus(from, to, n).profile()) {
		t.Fatalf("Give(%v, %d, %d, %d) = %v, %v", p, from, to, n, more, e)
	}
	if back, e := step.Take(more, from, to, n); e != api.OK || !slices.Equal(back, p) {
		t.Fatalf("Take back from %v: %v, %v, not %v", more, back, e, p)
	}
}

// P3.4: many takes, given back in another order, leave the profile as it was; where First tells, n can be taken.
func TestGiveBackInAnotherOrder(t *testing.T) {
	type lot struct {
		at, long int64
		n        int
	}
	first, e := step.New(20)
	if e != api.OK {
		t.Fatal(e)
	}
	p := first
	var lots []lot
	for i := range 60 {
		l := lot{long: int64(i*7%13 + 1), n: i*5%11 + 1}
		from, ok := int64(i*11%17), false
		if l.at, ok = step.First(p, from, l.long, l.n); !ok || l.at < from {
			t.Fatal(l, ok)
		}
		for at := from; at < l.at; at++ {
			if _, e := step.Take(p, at, at+l.long, l.n); e != api.ErrFull {
				t.Fatal("earlier than told:", at, l, e)
			}
		}
		if p, e = step.Take(p, l.at, l.at+l.long, l.n); e != api.OK || !step.Right(p) {
			t.Fatal(l, p, e)
		}
		lots = append(lots, l)
	}
	for i := range lots {
		l := lots[i*37%len(lots)]
		if p, e = step.Give(p, l.at, l.at+l.long, l.n); e != api.OK || !step.Right(p) {
			t.Fatal(l, p, e)
		}
	}
	if !slices.Equal(p, first) {
		t.Error(p)
	}
}

// Rule 3: what is handed in stays, its spare room too, and an answer is new memory, beside an error as well.
func TestNewMemory(t *testing.T) {
	whole := append(stairs(api.MaxSteps-1), api.Step{At: -7, Free: -7}, api.Step{At: -8, Free: -8}, api.Step{At: -9, Free: -9})
	spare := steps(0, 4, 2, 1, 5, 4, -7, -7, -8, -8, -9, -9)
	for _, c := range []struct {
		whole    []api.Step
		size     int
		from, to int64
		n        int
	}{
		{spare, 3, 0, 1, 1}, {spare, 3, 2, 5, 1}, {spare, 3, 3, 4, 1}, {spare, 3, 7, api.Never, 1}, {spare, 3, 2, 5, 0},
		{spare, 3, 0, 3, api.MaxFree}, {spare, 3, 3, 3, 1}, {spare, 3, -1, 9, 1}, {spare, 3, 0, 3, -1}, {spare, 6, 0, 3, 1},
		{whole, api.MaxSteps - 1, 3, 7, 1}, {whole, api.MaxSteps - 1, 3, 10, 2}, {whole, api.MaxSteps - 1, 3, 10, 0},
	} {
		p, kept := c.whole[:c.size], slices.Clone(c.whole)
		step.Right(p)
		step.At(p, c.from)
		step.Least(p, c.from, c.to)
		step.First(p, c.from, c.to, c.n)
		for name, f := range changes() {
			q, e := f(p, c.from, c.to, c.n)
			q = q[:cap(q)]
			for i := range q {
				q[i] = api.Step{At: math.MaxInt64, Free: 99}
			}
			if !slices.Equal(c.whole, kept) {
				t.Fatalf("%s(%d, %d, %d), %v: what is handed in is changed", name, c.from, c.to, c.n, e)
			}
		}
	}
}
