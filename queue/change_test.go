package queue_test

import (
	"math"
	"slices"
	"testing"

	"bailiwick/api"
	"bailiwick/job"
	"bailiwick/queue"
)

// wantAdd tells where Add answers otherwise than the document's words.
func wantAdd(t *testing.T, l []api.Job, s api.Spec, needs []int, now int64) {
	t.Helper()
	want, number, e := add(l, s, needs, now)
	got, id, f := queue.Add(l, s, needs, now)
	if f != e || id != number || !equal(got, want) {
		t.Fatalf("Add(%+v, %+v, %v, %d) = %+v, %d, %v, not %+v, %d, %v", l, s, needs, now, got, id, f, want, number, e)
	}
}

// wantDo tells where Do answers otherwise than the document's words.
func wantDo(t *testing.T, l []api.Job, id, what int, now int64) {
	t.Helper()
	want, e := do(l, id, what, now)
	if got, f := queue.Do(l, id, what, now); f != e || !equal(got, want) {
		t.Fatalf("Do(%+v, %d, %d, %d) = %+v, %v, not %+v, %v", l, id, what, now, got, f, want, e)
	}
}

// upTo are the numbers from 1 on, so many of them.
func upTo(many int) []int {
	var out []int
	for n := range many {
		out = append(out, n+1)
	}
	return out
}

// badSpecs may not be asked for.
func badSpecs() []api.Spec {
	return []api.Spec{{}, {Nodes: 1, Long: 5}, {Nodes: 1, Cores: 1}, {Nodes: 65, Cores: 1, Long: 5}, {Nodes: 1, Cores: 1, Long: 5, Prio: 1001}, {Nodes: 1, Cores: 1, Long: 5, Tag: "No"}}
}

// P12.1: what is added is a job that waits, with the number behind the last one's. Told by hand.
func TestAdd(t *testing.T) {
	s := api.Spec{Nodes: 2, Cores: 3, Gpus: 1, Tag: "fast", Long: 7, Prio: -9}
	for _, c := range []struct {
		l     []api.Job
		needs []int
		now   int64
		id    int
	}{
		{nil, nil, 0, 1}, {nil, []int{}, api.Never, 1}, {[]api.Job{}, nil, 5, 1},
		{[]api.Job{in(1, 0, 0)}, nil, 0, 2}, {[]api.Job{in(7, 5, 3)}, []int{7}, 3, 8}, {[]api.Job{in(7, 5, 3)}, []int{}, api.Never, 8},
		{[]api.Job{in(2, 0, 0), in(9, 2, 4)}, []int{2, 9}, 4, 10}, {[]api.Job{in(2, 0, 0), in(9, 2, 4)}, []int{2}, 5, 10}, {[]api.Job{in(2, 0, 0), in(9, 2, 4)}, []int{9}, 6, 10},
		{[]api.Job{in(1<<30-1, 0, 0)}, []int{1<<30 - 1}, 0, 1 << 30}, {row(63, 63), []int{1, 30, 62, 63}, 20, 64}, {row(63, 1<<30-1), nil, 20, 1 << 30}, {edges()[:19], upTo(16), api.Never, 1 << 30},
	} {
		want := append(deep(c.l), api.Job{ID: c.id, Spec: s, Needs: c.needs, Came: c.now})
		if got, id, e := queue.Add(c.l, s, c.needs, c.now); e != api.OK || id != c.id || !equal(got, want) {
			t.Errorf("Add(%+v, %v, %d) = %+v, %d, %v", c.l, c.needs, c.now, got, id, e)
		}
	}
}

// P12.1: each error of Add, and of several the one that is named first; beside each the queue as it is, and 0. Told by hand.
func TestAddErrors(t *testing.T) {
	s, last := plain(), 1<<30
	full, end, both := row(64, 64), row(5, last), row(64, last)
	for _, c := range []struct {
		l     []api.Job
		s     api.Spec
		needs []int
		now   int64
		want  api.Errno
	}{
		{nil, api.Spec{}, nil, 0, api.ErrArg}, {nil, s, nil, -1, api.ErrArg}, {nil, s, nil, api.Never + 1, api.ErrArg}, {nil, s, nil, math.MinInt64, api.ErrArg}, {nil, s, nil, math.MaxInt64, api.ErrArg},
		{nil, s, []int{0}, 0, api.ErrArg}, {nil, s, []int{-1}, 0, api.ErrArg}, {row(3, 3), s, []int{2, 1}, 9, api.ErrArg}, {row(3, 3), s, []int{2, 2}, 9, api.ErrArg}, {row(3, 3), s, []int{0, 1}, 9, api.ErrArg}, {row(3, 3), s, []int{1, 3, 2}, 9, api.ErrArg},
		{row(3, 3), s, []int{math.MinInt}, 9, api.ErrArg}, {row(3, 3), s, []int{1, math.MinInt}, 9, api.ErrArg}, {row(3, 3), s, []int{math.MaxInt, 1}, 9, api.ErrArg},
		{[]api.Job{in(1, 0, 4)}, s, nil, 3, api.ErrArg}, {[]api.Job{in(1, 0, 4)}, s, nil, 0, api.ErrArg}, {[]api.Job{in(1, 0, 0), in(2, 0, api.Never)}, s, nil, api.Never - 1, api.ErrArg},
		{row(17, 17), s, upTo(17), 9, api.ErrArg}, {row(63, 63), s, upTo(63), 99, api.ErrArg}, {nil, s, upTo(17), 0, api.ErrArg}, {nil, s, upTo(256 + 16), 0, api.ErrArg}, {nil, s, make([]int, 1<<16), 0, api.ErrArg},

		{nil, s, []int{1}, 0, api.ErrNone}, {row(3, 3), s, []int{4}, 9, api.ErrNone}, {row(3, 3), s, []int{1, 5}, 9, api.ErrNone}, {row(3, 5), s, []int{2, 3}, 9, api.ErrNone}, {row(3, 5), s, []int{1}, 9, api.ErrNone},
		{row(3, 3), s, []int{math.MaxInt}, 9, api.ErrNone}, {row(3, 3), s, []int{1 << 30}, 9, api.ErrNone}, {row(3, 3), s, []int{1<<32 + 1}, 9, api.ErrNone}, {row(3, 3), s, upTo(16), 9, api.ErrNone}, {[]api.Job{in(2, 0, 0), in(4, 0, 0)}, s, []int{2, 3, 4}, 0, api.ErrNone},

		{full, s, nil, 99, api.ErrFull}, {full, s, []int{1, 64}, 99, api.ErrFull}, {full, s, []int{65}, 99, api.ErrNone}, {full, s, []int{1, 99}, 99, api.ErrNone}, {full, s, []int{2, 1}, 99, api.ErrArg}, {full, api.Spec{}, nil, 99, api.ErrArg}, {full, s, nil, 20, api.ErrArg}, {full, s, []int{65}, 20, api.ErrArg},
		{end, s, nil, 9, api.ErrOver}, {end, s, []int{last}, 9, api.ErrOver}, {end, s, []int{1}, 9, api.ErrNone}, {end, s, []int{last + 1}, 9, api.ErrNone}, {end, s, []int{1}, 0, api.ErrArg}, {end, s, []int{0}, 9, api.ErrArg}, {end, badSpecs()[1], []int{1}, 9, api.ErrArg},
		{both, s, nil, 99, api.ErrFull}, {both, s, []int{last}, 99, api.ErrFull}, {both, s, []int{1}, 99, api.ErrNone}, {both, s, []int{1}, -1, api.ErrArg}, {both, s, nil, api.Never + 1, api.ErrArg},
		{row(63, last), s, nil, 99, api.ErrOver},
	} {
		if got, id, e := queue.Add(c.l, c.s, c.needs, c.now); e != c.want || id != 0 || !equal(got, c.l) {
			t.Errorf("Add(%+v, %+v, %v, %d) = %+v, %d, %v, not %v", c.l, c.s, c.needs, c.now, got, id, e, c.want)
		}
	}
}

// P12.1: of many queues, needs that are there and such as aren't, or don't rise, at many times.
func TestAddByModel(t *testing.T) {
	specs := append(badSpecs(), plain(), api.Spec{Nodes: 64, Cores: 64, Gpus: 64, Tag: "0123456789abcxyz", Whole: true, Long: 1 << 40, Prio: 1000})
	for _, l := range some() {
		n := numbers(l)
		wishes := [][]int{nil, {}, upTo(16), upTo(17)}
		for k, id := range n {
			wishes = append(wishes, []int{id}, []int{id, n[len(n)-1]}, []int{n[k/2], id})
		}
		for k, needs := range wishes {
			for i, now := range moments(l) {
				if len(l) < 5 || (k+i)%3 == 0 {
					wantAdd(t, l, specs[(k+i)%len(specs)], needs, now)
					wantAdd(t, l, plain(), needs, now)
				}
			}
		}
	}
}

// P12.1: of all queues of few jobs, all needs of them and of those that are next to them.
func TestAddNeedsByModel(t *testing.T) {
	for _, ids := range [][]int{{1, 2}, {2, 3}, {2, 4}, {1<<30 - 1, 1 << 30}} {
		for _, l := range queues(ids, 0) {
			for _, a := range []int{-1, 0, 1, 2, 3, 4, 5, 1<<30 - 1, 1 << 30, 1<<30 + 1} {
				for _, b := range []int{-1, 0, 1, 2, 3, 4, 5, 1<<30 - 1, 1 << 30, 1<<30 + 1} {
					wantAdd(t, l, plain(), []int{a, b}, 5)
				}
			}
		}
	}
}

// P12.1: up to 16 are needed, of as many as there are.
func TestAddManyNeeds(t *testing.T) {
	for many := range 64 {
		l := row(many, many)
		for needs := range many + 2 {
			wantAdd(t, l, plain(), upTo(needs), 99)
		}
		if many < 16 {
			continue
		}
		last := upTo(many)[many-16:]
		wantAdd(t, l, plain(), last, 99)
		for at := range last {
			for _, n := range []int{-1, 0, last[(at+1)%16], many + 1, 1 << 40} {
				bad := slices.Clone(last)
				bad[at] = n
				wantAdd(t, l, plain(), bad, 99)
			}
		}
	}
}

// P12.1: of a list that is no queue: ErrArg, it as it is, and 0, whatever else is wrong.
func TestAddToWrong(t *testing.T) {
	for _, l := range wrong() {
		for _, needs := range [][]int{nil, {1}, {77}, {2, 1}} {
			for _, now := range []int64{-1, 0, 9, api.Never} {
				for _, s := range []api.Spec{plain(), {}} {
					if got, id, e := queue.Add(l, s, needs, now); e != api.ErrArg || id != 0 || !equal(got, l) {
						t.Fatalf("Add(%+v, %v, %v, %d) = %+v, %d, %v", l, s, needs, now, got, id, e)
					}
				}
			}
		}
	}
}

// P12.1: what happens to one leaves the others as they are, and is layer 11's. Told by hand.
func TestDo(t *testing.T) {
	l := []api.Job{in(2, api.Waits, 1), in(5, api.Runs, 1), in(6, api.Waits, 3, 2, 5), in(9, api.Holds, 4)}
	for _, c := range []struct {
		id, what int
		now      int64
		at       int
		state    int
		from, to int64
		e        api.Errno
	}{
		{2, api.DoHold, 1, 0, api.Holds, 0, 0, api.OK}, {2, api.DoStart, 2, 0, api.Runs, 2, 0, api.OK}, {2, api.DoCancel, api.Never, 0, api.Cancelled, 0, api.Never, api.OK}, {2, api.DoRefuse, 1, 0, api.Refused, 0, 1, api.OK},
		{5, api.DoEnd, 2, 1, api.Done, 2, 2, api.OK}, {5, api.DoOver, 3, 1, api.Ended, 2, 3, api.OK}, {5, api.DoCancel, 4, 1, api.Cancelled, 2, 4, api.OK},
		// One begins as layer 11 has it: who waits for whom is asked by Ready.
		{6, api.DoStart, 3, 2, api.Runs, 3, 0, api.OK}, {9, api.DoFree, 4, 3, api.Waits, 0, 0, api.OK}, {9, api.DoCancel, 9, 3, api.Cancelled, 0, 9, api.OK},

		{2, api.DoEnd, 9, 0, api.Waits, 0, 0, api.ErrState}, {5, api.DoStart, 9, 1, api.Runs, 2, 0, api.ErrState}, {9, api.DoStart, 9, 3, api.Holds, 0, 0, api.ErrState},
		{2, 0, 9, 0, api.Waits, 0, 0, api.ErrArg}, {2, 8, 9, 0, api.Waits, 0, 0, api.ErrArg}, {2, api.DoStart, 0, 0, api.Waits, 0, 0, api.ErrArg}, {5, api.DoEnd, 1, 1, api.Runs, 2, 0, api.ErrArg}, {9, api.DoFree, 3, 3, api.Holds, 0, 0, api.ErrArg}, {9, api.DoFree, -1, 3, api.Holds, 0, 0, api.ErrArg}, {9, api.DoFree, api.Never + 1, 3, api.Holds, 0, 0, api.ErrArg},

		{1, api.DoHold, 9, 0, api.Waits, 0, 0, api.ErrNone}, {3, api.DoHold, 9, 0, api.Waits, 0, 0, api.ErrNone}, {10, api.DoHold, 9, 0, api.Waits, 0, 0, api.ErrNone}, {0, api.DoHold, 9, 0, api.Waits, 0, 0, api.ErrNone}, {-2, api.DoHold, 9, 0, api.Waits, 0, 0, api.ErrNone}, {1<<32 + 2, api.DoHold, 9, 0, api.Waits, 0, 0, api.ErrNone},
	} {
		want := deep(l)
		want[c.at].State, want[c.at].From, want[c.at].To = c.state, c.from, c.to
		if got, e := queue.Do(l, c.id, c.what, c.now); e != c.e || !equal(got, want) {
			t.Errorf("Do(%d, %d, %d) = %+v, %v", c.id, c.what, c.now, got, e)
		}
	}
}

// P12.1: ErrNone, and the queue as it is, where nobody has that number, whatever would happen: layer 11's errors are a job's.
func TestDoToNone(t *testing.T) {
	for _, l := range some() {
		for _, id := range numbers(l) {
			if isThere(l, id) {
				continue
			}
			for what := -1; what <= 8; what++ {
				for _, now := range []int64{-1, 0, 5, api.Never, api.Never + 1} {
					if got, e := queue.Do(l, id, what, now); e != api.ErrNone || !equal(got, l) {
						t.Fatalf("Do(%+v, %d, %d, %d) = %+v, %v", l, id, what, now, got, e)
					}
				}
			}
		}
	}
}

// P12.1: of many queues, all that happens to any of theirs, at many times.
func TestDoByModel(t *testing.T) {
	for _, l := range some() {
		for _, id := range numbers(l) {
			for _, what := range []int{math.MinInt, -1, 0, 1, 2, 3, 4, 5, 6, 7, 8, math.MaxInt} {
				for k, now := range moments(l) {
					if len(l) < 5 || (id+what+k)%7 == 0 {
						wantDo(t, l, id, what, now)
					}
				}
			}
		}
	}
}

// P12.1: each job of a great queue is found, and what happens to it is layer 11's.
func TestDoToEach(t *testing.T) {
	for _, l := range great() {
		for at, j := range l {
			for what := 1; what <= 7; what++ {
				want := deep(l)
				next, e := job.Do(j, what, api.Never)
				want[at] = next
				if got, f := queue.Do(l, j.ID, what, api.Never); f != e || !equal(got, want) {
					t.Fatalf("Do(%+v, %d, %d) = %+v, %v", l, j.ID, what, got, f)
				}
			}
		}
	}
}

// P12.1: of a list that is no queue: ErrArg, and it as it is, whoever is asked for.
func TestDoInWrong(t *testing.T) {
	for _, l := range wrong() {
		for _, id := range numbers(l) {
			for what := 0; what <= 8; what++ {
				if got, e := queue.Do(l, id, what, 9); e != api.ErrArg || !equal(got, l) {
					t.Fatalf("Do(%+v, %d, %d, 9) = %+v, %v", l, id, what, got, e)
				}
			}
		}
	}
}
