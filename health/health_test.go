package health_test

import (
	"slices"
	"testing"

	"bailiwick/api"
	"bailiwick/health"
)

// The document's numbers, of which the others of these tests make use.
func TestNumbers(t *testing.T) {
	if api.Fine != 0 || api.Drain != 1 || api.Down != 2 || api.MaxThings != 256 {
		t.Error(api.Fine, api.Drain, api.Down, api.MaxThings)
	}
}

// P6.1: Right, of all healths of small graphs, and of some of great ones.
func TestRight(t *testing.T) {
	for _, g := range graphs() {
		for _, h := range healths(g) {
			if !health.Right(g, h) {
				t.Fatalf("Right(%v, %v) is false", g, h)
			}
		}
	}
}

// P6.1: lists that are no health of a graph: of another length, or with a number that is none of the three.
func TestRightOfNone(t *testing.T) {
	for _, g := range graphs() {
		for _, h := range noHealths(g) {
			if health.Right(g, h) {
				t.Fatalf("Right(%v, %v) is true", g, h)
			}
		}
	}
}

// P6.1: Right is false of what is no graph, though there are as many numbers as things.
func TestRightOfNoGraph(t *testing.T) {
	for _, g := range wrong() {
		for size := range 302 {
			for _, how := range hows() {
				if h := of(size, func(int) int { return how }); health.Right(g, h) {
					t.Fatalf("Right(%v, %v) is true", g, h)
				}
			}
		}
	}
}

// P6.1: all are fine at first; nothing of what is no graph.
func TestNew(t *testing.T) {
	for _, g := range graphs() {
		h := health.New(g)
		if !slices.Equal(h, make([]int, len(g))) || !health.Right(g, h) {
			t.Fatalf("New(%v) = %v", g, h)
		}
	}
	for _, g := range wrong() {
		if h := health.New(g); len(h) > 0 {
			t.Errorf("New(%v) = %v", g, h)
		}
	}
}

// P6.1: of what is set just that thing is so, and the others are as they were.
func TestSet(t *testing.T) {
	for _, g := range graphs() {
		for _, h := range healths(g) {
			for n := range g {
				for _, how := range hows() {
					want := of(len(g), func(k int) int {
						if k == n {
							return how
						}
						return h[k]
					})
					if got, e := health.Set(g, h, n, how); e != api.OK || !slices.Equal(got, want) {
						t.Fatalf("Set(%v, %v, %d, %d) = %v, %v", g, h, n, how, got, e)
					}
				}
			}
		}
	}
}

// P6.1: ErrNone, and the health as it is, where there is no such thing.
func TestSetNoThing(t *testing.T) {
	for _, g := range graphs() {
		for _, h := range healths(g) {
			for _, n := range noThings(g) {
				for _, how := range hows() {
					wantSet(t, g, h, n, how, api.ErrNone)
				}
			}
		}
	}
}

// P6.1: ErrArg, and the health as it is, of what is none of the three: named ahead of a thing that isn't there.
func TestSetNoHow(t *testing.T) {
	for _, g := range grown(3) {
		for _, h := range healths(g) {
			for n := range g {
				for _, how := range noHows() {
					wantSet(t, g, h, n, how, api.ErrArg)
				}
			}
			for _, n := range noThings(g) {
				for _, how := range noHows() {
					wantSet(t, g, h, n, how, api.ErrArg)
				}
			}
		}
	}
}

// P6.1: ErrArg, and the list as it is, where it is no health: named ahead of a thing that isn't there.
func TestSetNoHealth(t *testing.T) {
	for _, g := range append(grown(3), sample()) {
		for _, h := range noHealths(g) {
			for _, how := range []int{-1, 0, 1, 2, 3} {
				for _, n := range append(noThings(g), 0, len(g)-1) {
					wantSet(t, g, h, n, how, api.ErrArg)
				}
			}
		}
	}
	for _, g := range wrong() {
		for _, h := range [][]int{nil, {}, {0}, {2}, {7}, {0, 1}, {1, 2, 0}, make([]int, len(g))} {
			for _, n := range append(noThings(g), 0, 1) {
				wantSet(t, g, h, n, api.Fine, api.ErrArg)
			}
		}
	}
}

// wantSet tells where Set doesn't answer that error, and beside it what it was handed.
func wantSet(t *testing.T, g []api.Thing, h []int, n, how int, want api.Errno) {
	t.Helper()
	if got, e := health.Set(g, h, n, how); e != want || !slices.Equal(got, h) {
		t.Fatalf("Set(%v, %v, %d, %d) = %v, %v, not %v, %v", g, h, n, how, got, e, h, want)
	}
}

// P6.2: how bad each thing is, and which may be used and work: by all that it is part of, itself counted in.
func TestWorstUsableWorks(t *testing.T) {
	for _, g := range graphs() {
		for _, h := range healths(g) {
			for n := range g {
				if got, want := health.Worst(g, h, n), howBad(g, h, n); got != want {
					t.Fatalf("Worst(%v, %v, %d) = %d, not %d", g, h, n, got, want)
				}
			}
			usable := pick(len(g), func(n int) bool { return howBad(g, h, n) == 0 })
			if got := health.Usable(g, h); !slices.Equal(got, usable) {
				t.Fatalf("Usable(%v, %v) = %v, not %v", g, h, got, usable)
			}
			works := pick(len(g), func(n int) bool { return howBad(g, h, n) != 2 })
			if got := health.Works(g, h); !slices.Equal(got, works) {
				t.Fatalf("Works(%v, %v) = %v, not %v", g, h, got, works)
			}
		}
	}
}

// P6.2: the same of a graph told by hand.
func TestSample(t *testing.T) {
	g := sample()
	for _, c := range []struct {
		h                    []int
		worst, usable, works []int
	}{
		{ // nothing is bad
			[]int{0, 0, 0, 0, 0, 0, 0, 0, 0, 0, 0, 0}, []int{0, 0, 0, 0, 0, 0, 0, 0, 0, 0, 0, 0},
			[]int{0, 1, 2, 3, 4, 5, 6, 7, 8, 9, 10, 11}, []int{0, 1, 2, 3, 4, 5, 6, 7, 8, 9, 10, 11},
		},
		{ // a node Drain: its cores may not be used, and work
			[]int{0, 0, 1, 0, 0, 0, 0, 0, 0, 0, 0, 0}, []int{0, 0, 1, 1, 0, 0, 0, 1, 0, 1, 0, 0},
			[]int{0, 1, 4, 5, 6, 8, 10, 11}, []int{0, 1, 2, 3, 4, 5, 6, 7, 8, 9, 10, 11},
		},
		{ // a rack Down, and a node that isn't of it Drain
			[]int{0, 2, 0, 0, 1, 0, 0, 0, 0, 0, 0, 0}, []int{0, 2, 2, 2, 1, 0, 1, 2, 0, 2, 2, 2},
			[]int{0, 5, 8}, []int{0, 4, 5, 6, 8},
		},
		{ // what is worse ahead, and what is worse behind
			[]int{0, 2, 1, 0, 1, 0, 2, 0, 0, 1, 1, 0}, []int{0, 2, 2, 2, 1, 0, 2, 2, 0, 2, 2, 2},
			[]int{0, 5, 8}, []int{0, 4, 5, 8},
		},
		{ // a core of a rack is bad: neither the rack nor the cores beside it are
			[]int{0, 0, 0, 2, 0, 0, 0, 0, 0, 0, 0, 1}, []int{0, 0, 0, 2, 0, 0, 0, 0, 0, 0, 0, 1},
			[]int{0, 1, 2, 4, 5, 6, 7, 8, 9, 10}, []int{0, 1, 2, 4, 5, 6, 7, 8, 9, 10, 11},
		},
		{ // the cluster Drain, and a gpu Down
			[]int{1, 0, 0, 0, 0, 0, 0, 0, 0, 2, 0, 0}, []int{1, 1, 1, 1, 1, 1, 1, 1, 1, 2, 1, 1},
			nil, []int{0, 1, 2, 3, 4, 5, 6, 7, 8, 10, 11},
		},
		{ // the cluster Down
			[]int{2, 0, 1, 0, 0, 0, 0, 0, 0, 0, 0, 0}, []int{2, 2, 2, 2, 2, 2, 2, 2, 2, 2, 2, 2},
			nil, nil,
		},
	} {
		worst := of(len(g), func(n int) int { return health.Worst(g, c.h, n) })
		if !slices.Equal(worst, c.worst) {
			t.Errorf("of %v: worst %v, not %v", c.h, worst, c.worst)
		}
		if usable, works := health.Usable(g, c.h), health.Works(g, c.h); !slices.Equal(usable, c.usable) || !slices.Equal(works, c.works) {
			t.Errorf("of %v: usable %v, works %v", c.h, usable, works)
		}
	}
}

// P6.2: Down, of a thing that isn't there, though all others are fine.
func TestWorstNoThing(t *testing.T) {
	for _, g := range graphs() {
		for _, h := range healths(g) {
			for _, n := range noThings(g) {
				if got := health.Worst(g, h, n); got != api.Down {
					t.Fatalf("Worst(%v, %v, %d) = %d", g, h, n, got)
				}
			}
		}
	}
}

// P6.2: Down, and nothing, of what is no health.
func TestNoHealth(t *testing.T) {
	for _, g := range append(grown(3), sample()) {
		for _, h := range noHealths(g) {
			wantNothing(t, g, h)
		}
	}
	for _, g := range wrong() {
		for _, h := range [][]int{nil, {}, {0}, {0, 0}, make([]int, len(g))} {
			wantNothing(t, g, h)
		}
	}
}

// wantNothing tells where a thing is better than Down, may be used or works.
func wantNothing(t *testing.T, g []api.Thing, h []int) {
	t.Helper()
	for _, n := range append(noThings(g), of(len(g), func(n int) int { return n })...) {
		if got := health.Worst(g, h, n); got != api.Down {
			t.Fatalf("Worst(%v, %v, %d) = %d", g, h, n, got)
		}
	}
	if usable, works := health.Usable(g, h), health.Works(g, h); len(usable) > 0 || len(works) > 0 {
		t.Fatalf("of %v, %v: usable %v, works %v", g, h, usable, works)
	}
}

// P6.3: what may be used works.
func TestUsableWorks(t *testing.T) {
	for _, g := range graphs() {
		for _, h := range healths(g) {
			works := health.Works(g, h)
			for _, n := range health.Usable(g, h) {
				if !slices.Contains(works, n) {
					t.Fatalf("of %v, %v: %d may be used, and doesn't work", g, h, n)
				}
			}
		}
	}
}

// P6.3: what is set on a thing says nothing of those that aren't under it, and says it of all that are.
func TestSetSaysOfThoseUnder(t *testing.T) {
	for _, g := range append(grown(4), sample()) {
		for _, h := range healths(g) {
			for n := range g {
				for _, how := range hows() {
					wantUnder(t, g, h, n, how)
				}
			}
		}
	}
}

// wantUnder tells where a thing that isn't under n is otherwise once n is set, or one under it is better than n.
func wantUnder(t *testing.T, g []api.Thing, h []int, n, how int) {
	t.Helper()
	k, e := health.Set(g, h, n, how)
	if e != api.OK {
		t.Fatalf("Set(%v, %v, %d, %d): %v", g, h, n, how, e)
	}
	usable, works, usableThen, worksThen := health.Usable(g, h), health.Works(g, h), health.Usable(g, k), health.Works(g, k)
	for i := range g {
		if isPart(g, i, n) {
			if health.Worst(g, k, i) < how {
				t.Fatalf("Set(%v, %v, %d, %d): thing %d is better", g, h, n, how, i)
			}
			continue
		}
		if health.Worst(g, k, i) != health.Worst(g, h, i) || slices.Contains(usable, i) != slices.Contains(usableThen, i) || slices.Contains(works, i) != slices.Contains(worksThen, i) {
			t.Fatalf("Set(%v, %v, %d, %d): thing %d is otherwise", g, h, n, how, i)
		}
	}
}

// Rule 3: what is handed in stays as it is, its spare room too, and an answer is new memory, beside an error as well.
func TestMemory(t *testing.T) {
	things := plus(sample(), api.Thing{Kind: 9, Up: 9, Tag: "spare"})
	g, keptThings := things[:len(things)-1], slices.Clone(things)
	room := []int{0, 0, 1, 0, 0, 0, 2, 0, 0, 0, 0, 0, -7, -8}
	h, kept := room[:len(g)], slices.Clone(room)
	set := func(g []api.Thing, h []int, n, how int) func() []int {
		return func() []int {
			l, _ := health.Set(g, h, n, how)
			return l
		}
	}
	for i, call := range []func() []int{
		func() []int { return health.New(g) },
		func() []int { return health.Usable(g, h) },
		func() []int { return health.Works(g, h) },
		set(g, h, 3, api.Down), set(g, h, 2, api.Drain), // the second changes nothing
		set(g, h, 99, api.Fine), set(g, h, 3, 9), set(g[1:], h[1:], 3, api.Fine), set(g, room, 3, api.Fine), set(nil, h[:0], 0, api.Fine),
	} {
		first := call()
		want := slices.Clone(first)
		for k := range first[:cap(first)] {
			first[:cap(first)][k] = -5
		}
		if second := call(); !slices.Equal(second, want) {
			t.Errorf("call %d: %v, and then %v", i, want, second)
		}
		if !slices.Equal(room, kept) || !slices.Equal(things, keptThings) {
			t.Fatalf("call %d: what was handed in has become %v, %v", i, room, things)
		}
	}
	health.Right(g, h)
	health.Worst(g, h, 3)
	if !slices.Equal(room, kept) || !slices.Equal(things, keptThings) {
		t.Errorf("what was handed in has become %v, %v", room, things)
	}
}
