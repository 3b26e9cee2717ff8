package pools_test

import (
	"math"
	"testing"

	"bailiwick/api"
	"bailiwick/pools"
	"bailiwick/step"
	"bailiwick/when"
)

// change is Take or Give.
type change func(l [][]api.Step, from, to int64, n []int) ([][]api.Step, api.Errno)

// changes are both, by name.
func changes() map[string]change {
	return map[string]change{"Take": pools.Take, "Give": pools.Give}
}

// noSpans are spans that are empty, or of which one end is no time.
func noSpans() [][2]int64 {
	return [][2]int64{
		{5, 5}, {0, 0}, {5, 4}, {api.Never, api.Never}, {-1, 5}, {-5, -1}, {math.MinInt64, 5},
		{0, api.Never + 1}, {5, math.MaxInt64}, {api.Never, api.Never + 1}, {math.MaxInt64, math.MinInt64},
	}
}

// refused says that a change answers this error, and the pools as they are beside it.
func refused(t *testing.T, name string, l [][]api.Step, from, to int64, n []int, want api.Errno) {
	t.Helper()
	if m, e := changes()[name](l, from, to, n); e != want || !equal(m, l) {
		t.Errorf("%s(%v, %d, %d, %v) = %v, %v, not %v", name, l, from, to, n, m, e, want)
	}
}

// P4.2: less, or more, of each kind is free in a span.
func TestTakeGive(t *testing.T) {
	l := list(steps(0, 4, 2, 1, 5, 4), steps(0, 2))
	for _, c := range []struct {
		name     string
		from, to int64
		n        []int
		want     [][]api.Step
	}{
		{"Take", 0, 2, []int{3, 1}, list(steps(0, 1, 5, 4), steps(0, 1, 2, 2))},
		{"Take", 0, 2, []int{4, 0}, list(steps(0, 0, 2, 1, 5, 4), steps(0, 2))},
		{"Take", 2, 5, []int{0, 2}, list(steps(0, 4, 2, 1, 5, 4), steps(0, 2, 2, 0, 5, 2))},
		{"Take", 1, 6, []int{1, 2}, list(steps(0, 4, 1, 3, 2, 0, 5, 3, 6, 4), steps(0, 2, 1, 0, 6, 2))},
		{"Take", 5, api.Never, []int{4, 2}, list(steps(0, 4, 2, 1, 5, 0, api.Never, 4), steps(0, 2, 5, 0, api.Never, 2))},
		{"Take", 0, api.Never, []int{0, 0}, l},
		{"Give", 2, 5, []int{3, 0}, list(steps(0, 4), steps(0, 2))},
		{"Give", 2, 5, []int{3, 5}, list(steps(0, 4), steps(0, 2, 2, 7, 5, 2))},
		{"Give", 4, 6, []int{1, api.MaxFree - 2}, list(steps(0, 4, 2, 1, 4, 2, 5, 5, 6, 4), steps(0, 2, 4, api.MaxFree, 6, 2))},
		{"Give", 0, api.Never, []int{0, 1}, list(steps(0, 4, 2, 1, 5, 4), steps(0, 3, api.Never, 2))},
		{"Give", 3, 4, []int{0, 0}, l},
	} {
		m, e := changes()[c.name](l, c.from, c.to, c.n)
		if e != api.OK || !equal(m, c.want) {
			t.Errorf("%s(%d, %d, %v) = %v, %v, not %v", c.name, c.from, c.to, c.n, m, e, c.want)
		}
	}
}

// P4.2: one kind and four kinds, each with its own amount.
func TestChangeOneAndFour(t *testing.T) {
	one, four := list(steps(0, 4)), list(steps(0, 4), steps(0, 3), steps(0, 2), steps(0, 1))
	if m, e := pools.Take(one, 1, 2, []int{4}); e != api.OK || !equal(m, list(steps(0, 4, 1, 0, 2, 4))) {
		t.Error(m, e)
	}
	if m, e := pools.Give(one, 1, 2, []int{4}); e != api.OK || !equal(m, list(steps(0, 4, 1, 8, 2, 4))) {
		t.Error(m, e)
	}
	m, e := pools.Take(four, 1, 2, []int{1, 3, 0, 1})
	if e != api.OK || !equal(m, list(steps(0, 4, 1, 3, 2, 4), steps(0, 3, 1, 0, 2, 3), steps(0, 2), steps(0, 1, 1, 0, 2, 1))) {
		t.Error(m, e)
	}
	m, e = pools.Give(m, 1, 2, []int{1, 3, 2, 1})
	if e != api.OK || !equal(m, list(steps(0, 4), steps(0, 3), steps(0, 2, 1, 4, 2, 2), steps(0, 1))) {
		t.Error(m, e)
	}
}

// P4.2: ErrArg, whatever the kinds' own errors would be, of what are no pools; they too stay as they are.
func TestChangeOfNone(t *testing.T) {
	for name := range changes() {
		for _, l := range wrong() {
			for _, n := range []int{0, 1, api.MaxFree} {
				amounts := make([]int, len(l))
				for i := range amounts {
					amounts[i] = n
				}
				refused(t, name, l, 0, 6, amounts, api.ErrArg)
				refused(t, name, l, 6, 0, amounts, api.ErrArg)
			}
		}
	}
}

// P4.2: ErrArg of an n of another length, whatever the kinds' own errors would be.
func TestChangeOfAnotherLength(t *testing.T) {
	four := list(steps(0, 4), steps(0, 4), steps(0, 4), steps(0, 4))
	for name := range changes() {
		for kinds := 1; kinds <= 4; kinds++ {
			for length := range 7 {
				if length == kinds {
					continue
				}
				for _, n := range []int{0, 1, api.MaxFree} {
					amounts := make([]int, length)
					for i := range amounts {
						amounts[i] = n
					}
					refused(t, name, four[:kinds], 0, 6, amounts, api.ErrArg)
				}
			}
			refused(t, name, four[:kinds], 0, 6, nil, api.ErrArg)
		}
	}
}

// P4.2: what step.Take and step.Give refuse of one kind, at each place, while the others could be changed.
func TestChangeErrors(t *testing.T) {
	full := stairs(api.MaxSteps)
	for kinds := 1; kinds <= 4; kinds++ {
		for place := range kinds {
			l, one, odd := list(), make([]int, kinds), make([]int, kinds)
			for i := range kinds {
				l, one[i], odd[i] = append(l, steps(0, 4)), 1, 1
			}
			for name := range changes() {
				for _, s := range noSpans() {
					refused(t, name, l, s[0], s[1], one, api.ErrArg)
					refused(t, name, l, s[0], s[1], make([]int, kinds), api.ErrArg)
				}
				for _, n := range noAmounts() {
					odd[place] = n
					refused(t, name, l, 0, 5, odd, api.ErrArg)
				}
			}
			odd[place] = 5
			refused(t, "Take", l, 0, 5, odd, api.ErrFull)
			odd[place] = api.MaxFree - 3
			refused(t, "Give", l, 0, 5, odd, api.ErrOver)
			l[place] = full
			refused(t, "Take", l, 13, 17, one, api.ErrLong)
			refused(t, "Give", l, 13, 17, one, api.ErrLong)
			if _, e := pools.Take(l, 10, 20, one); e != api.OK {
				t.Error("steps that go again make none too long:", e)
			}
		}
	}
}

// P4.2: of several errors that of the first kind that is refused, not the one that step names first.
func TestChangeFirstError(t *testing.T) {
	long, some, none, most := stairs(api.MaxSteps), steps(0, 4), steps(0, 0), steps(0, api.MaxFree)
	for _, c := range []struct {
		name string
		l    [][]api.Step
		n    []int
		want api.Errno
	}{
		{"Take", list(none, long), []int{1, 1}, api.ErrFull}, {"Take", list(long, none), []int{1, 1}, api.ErrLong},
		{"Take", list(some, none), []int{-1, 1}, api.ErrArg}, {"Take", list(none, some), []int{1, -1}, api.ErrFull},
		{"Take", list(long, some), []int{1, -1}, api.ErrLong}, {"Take", list(some, long, none, some), []int{1, 1, 1, -1}, api.ErrLong},
		{"Take", list(some, none, some, long), []int{4, 1, -1, 1}, api.ErrFull}, {"Take", list(some, some, some, none), []int{1, 1, api.MaxFree + 1, 1}, api.ErrArg},
		{"Give", list(most, long), []int{1, 1}, api.ErrOver}, {"Give", list(long, most), []int{1, 1}, api.ErrLong},
		{"Give", list(some, most), []int{-1, 1}, api.ErrArg}, {"Give", list(most, some), []int{1, -1}, api.ErrOver},
		{"Give", list(long, some), []int{1, -1}, api.ErrLong}, {"Give", list(some, long, most, some), []int{1, 1, 1, -1}, api.ErrLong},
		{"Give", list(some, most, some, long), []int{4, 1, -1, 1}, api.ErrOver},
	} {
		refused(t, c.name, c.l, 13, 17, c.n, c.want)
	}
}

// P4.2, P4.4: all small tables of two kinds, in all their spans: what is taken is of all or of none.
func TestChangeTimeByTime(t *testing.T) {
	for _, ticks := range times() {
		for _, c := range []struct {
			frees   []int
			amounts [][]int
		}{
			{[]int{0, 2}, [][]int{{0, 0}, {1, 2}, {2, 0}, {3, 1}, {1, 3}}},
			{[]int{1, api.MaxFree - 1}, [][]int{{0, 1}, {1, 2}, {2, 1}, {api.MaxFree - 1, 0}}},
		} {
			for _, tab := range tables(2, rows(ticks, c.frees...)) {
				l := tab.pools()
				for i, from := range ticks {
					for _, to := range ticks[i+1:] {
						for _, n := range c.amounts {
							checkChange(t, tab, l, from, to, n, "Take", -1, api.ErrFull)
							checkChange(t, tab, l, from, to, n, "Give", 1, api.ErrOver)
						}
					}
				}
			}
		}
	}
}

// checkChange holds Take (sign -1) or Give (sign 1) of n in a span against the table's own.
func checkChange(t *testing.T, tab table, l [][]api.Step, from, to int64, n []int, name string, sign int, refusal api.Errno) {
	t.Helper()
	want, e := table{}, api.OK
	for i, r := range tab {
		if !r.within(from, to, sign*n[i], api.MaxFree) {
			want, e = tab, refusal
			break
		}
		want = append(want, r.plus(from, to, sign*n[i]))
	}
	m, got := changes()[name](l, from, to, n)
	if got != e || !equal(m, want.pools()) {
		t.Fatalf("%s(%v, %d, %d, %v) = %v, %v, not %v, %v", name, l, from, to, n, m, got, want.pools(), e)
	}
}

// P4.2: each kind is changed as step changes it alone, of one to four kinds.
func TestChangeKindByKind(t *testing.T) {
	for kinds := 1; kinds <= 4; kinds++ {
		for number, tab := range tables(kinds, rows([wide]int64{0, 3, 4, 6}, 1, 2, 5)) {
			l := tab.pools()
			from := int64(number % 5)
			to := from + int64(number%7) + 1
			n := []int{number % 2, number / 2 % 2, 1, 0}[:kinds]
			taken, e := pools.Take(l, from, to, n)
			given, f := pools.Give(l, from, to, n)
			if e != api.OK || f != api.OK {
				t.Fatal(l, from, to, n, e, f)
			}
			for i, p := range l {
				less, _ := step.Take(p, from, to, n[i])
				more, _ := step.Give(p, from, to, n[i])
				if !equal(list(less, more), list(taken[i], given[i])) {
					t.Fatalf("kind %d of %v from %d to %d of %v: %v, %v", i, l, from, to, n, taken[i], given[i])
				}
			}
		}
	}
}

// P4.4: many takes where First tells, given back in another order, leave the pools as they were.
func TestGiveBackInAnotherOrder(t *testing.T) {
	type lot struct {
		at, to int64
		n      []int
	}
	first, e := pools.New([]int{20, 9, 14})
	if e != api.OK {
		t.Fatal(e)
	}
	l := first
	var lots []lot
	for i := range 60 {
		long, n := int64(i*7%13+1), []int{i * 5 % 11, i * 3 % 8, i * 7 % 15}
		at, ok := pools.First(l, int64(i*11%17), long, n)
		if !ok {
			t.Fatal(i, l)
		}
		lots = append(lots, lot{at, when.Plus(at, long), n})
		if l, e = pools.Take(l, at, when.Plus(at, long), n); e != api.OK || !pools.Right(l) {
			t.Fatal(i, l, e)
		}
	}
	for i := range lots {
		o := lots[i*37%len(lots)]
		if l, e = pools.Give(l, o.at, o.to, o.n); e != api.OK || !pools.Right(l) {
			t.Fatal(i, l, e)
		}
	}
	if !equal(l, first) {
		t.Error(l)
	}
}
