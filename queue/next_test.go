package queue_test

import (
	"math"
	"slices"
	"testing"

	"bailiwick/api"
	"bailiwick/queue"
)

// wantNext tells where Ready, Lost and Counts answer otherwise than the document's words.
func wantNext(t *testing.T, l []api.Job) {
	t.Helper()
	if got, want := queue.Ready(l), ready(l); !slices.Equal(got, want) {
		t.Fatalf("Ready(%+v) = %v, not %v", l, got, want)
	}
	if got, want := queue.Lost(l), lost(l); !slices.Equal(got, want) {
		t.Fatalf("Lost(%+v) = %v, not %v", l, got, want)
	}
	if got, want := queue.Counts(l), counts(l); got != want {
		t.Fatalf("Counts(%+v) = %v, not %v", l, got, want)
	}
}

// P12.2: who is ready. Told by hand.
func TestReady(t *testing.T) {
	for _, c := range []struct {
		l    []api.Job
		want []int
	}{
		{nil, nil}, {[]api.Job{in(4, api.Waits, 0)}, []int{4}}, {[]api.Job{in(4, api.Holds, 0)}, nil}, {[]api.Job{in(4, api.Runs, 0)}, nil}, {[]api.Job{in(4, api.Done, 0)}, nil},
		{[]api.Job{in(1, api.Waits, 0), in(2, api.Waits, 0, 1)}, []int{1}}, {[]api.Job{in(1, api.Holds, 0), in(2, api.Waits, 0, 1)}, nil}, {[]api.Job{in(1, api.Runs, 0), in(2, api.Waits, 0, 1)}, nil},
		{[]api.Job{in(1, api.Done, 0), in(2, api.Waits, 0, 1)}, []int{2}}, {[]api.Job{in(1, api.Ended, 0), in(2, api.Waits, 0, 1)}, nil}, {[]api.Job{in(1, api.Cancelled, 0), in(2, api.Waits, 0, 1)}, nil}, {[]api.Job{in(1, api.Refused, 0), in(2, api.Waits, 0, 1)}, nil},
		{[]api.Job{in(1, api.Done, 0), in(2, api.Holds, 0, 1)}, nil}, {[]api.Job{in(1, api.Done, 0), in(2, api.Runs, 0, 1)}, nil},
		{[]api.Job{in(1, api.Done, 0), in(2, api.Runs, 0), in(3, api.Waits, 0, 1, 2)}, nil}, {[]api.Job{in(1, api.Runs, 0), in(2, api.Done, 0), in(3, api.Waits, 0, 1, 2)}, nil}, {[]api.Job{in(1, api.Done, 0), in(2, api.Done, 0), in(3, api.Waits, 0, 1, 2)}, []int{3}},
		// What the ones it needs have needed is not asked again.
		{[]api.Job{in(1, api.Cancelled, 0), in(2, api.Done, 0, 1), in(3, api.Waits, 0, 2)}, []int{3}},
		{[]api.Job{in(1, 0, 0), in(2, 0, 0), in(3, 0, 0), in(4, 0, 0)}, []int{1, 2, 3, 4}},
		{[]api.Job{urgent(in(1, 0, 0), -1), in(2, 0, 0), urgent(in(3, 0, 0), 7), in(4, 0, 0), urgent(in(5, 0, 0), 7)}, []int{3, 5, 2, 4, 1}},
		{[]api.Job{urgent(in(1, 0, 0), -1000), urgent(in(2, 0, 0), 1000), urgent(in(3, 0, 0), -1000), urgent(in(4, 0, 0), 999), urgent(in(5, 0, 0), 1000)}, []int{2, 5, 4, 1, 3}},
		{[]api.Job{urgent(in(1, 0, 0), 1), urgent(in(2, 0, 0, 1), 9), urgent(in(3, 1, 0), 9), urgent(in(4, 2, 0), 9), urgent(in(5, 0, 0), 2)}, []int{5, 1}},
		{edges(), []int{18, 1 << 30, 1<<30 - 1}},
	} {
		if got := queue.Ready(c.l); !slices.Equal(got, c.want) {
			t.Errorf("Ready(%+v) = %v, not %v", c.l, got, c.want)
		}
	}
}

// P12.2: of one Prio only the number tells who is next, not what was asked for, nor what is needed.
func TestReadyOfOnePrio(t *testing.T) {
	var l []api.Job
	for id := range 64 {
		j := in(id+1, api.Waits, int64(id))
		j.Spec.Cores, j.Spec.Nodes, j.Spec.Long, j.Spec.Prio = 64-id, 1+id%5, int64(1+id*37%64), 3
		if id%9 == 4 {
			j.Needs, l[0].State, l[0].From, l[0].To = []int{1}, api.Done, 0, 0
		}
		l = append(l, j)
	}
	if got := queue.Ready(l); !slices.Equal(got, upTo(64)[1:]) {
		t.Errorf("Ready: %v", got)
	}
}

// P12.2: as many jobs as there may be, of few Prios, of many, and of all others.
func TestReadyOfManyPrios(t *testing.T) {
	for seed := range 60 {
		roll := dice(seed)
		var l []api.Job
		for id := range 1 + roll(64) {
			l = append(l, urgent(in(id+1, api.Waits, 0), roll(1+seed*33)-seed*16))
		}
		wantNext(t, l)
	}
}

// P12.2: who is lost. Told by hand.
func TestLost(t *testing.T) {
	for _, c := range []struct {
		l    []api.Job
		want []int
	}{
		{nil, nil}, {[]api.Job{in(4, api.Waits, 0)}, nil}, {[]api.Job{in(4, api.Cancelled, 0)}, nil},
		{[]api.Job{in(1, api.Cancelled, 0), in(2, api.Waits, 0, 1)}, []int{2}}, {[]api.Job{in(1, api.Ended, 0), in(2, api.Waits, 0, 1)}, []int{2}}, {[]api.Job{in(1, api.Refused, 0), in(2, api.Waits, 0, 1)}, []int{2}},
		{[]api.Job{in(1, api.Done, 0), in(2, api.Waits, 0, 1)}, nil}, {[]api.Job{in(1, api.Runs, 0), in(2, api.Waits, 0, 1)}, nil}, {[]api.Job{in(1, api.Holds, 0), in(2, api.Waits, 0, 1)}, nil}, {[]api.Job{in(1, api.Waits, 0), in(2, api.Waits, 0, 1)}, nil},
		{[]api.Job{in(1, api.Cancelled, 0), in(2, api.Holds, 0, 1)}, []int{2}}, {[]api.Job{in(1, api.Cancelled, 0), in(2, api.Runs, 0, 1)}, nil}, {[]api.Job{in(1, api.Cancelled, 0), in(2, api.Done, 0, 1)}, nil}, {[]api.Job{in(1, api.Cancelled, 0), in(2, api.Refused, 0, 1)}, nil},
		{[]api.Job{in(1, api.Cancelled, 0), in(2, api.Waits, 0)}, nil}, {[]api.Job{in(1, api.Cancelled, 0), in(2, api.Done, 0), in(3, api.Waits, 0, 2)}, nil}, {[]api.Job{in(1, api.Cancelled, 0), in(2, api.Done, 0), in(3, api.Waits, 0, 1, 2)}, []int{3}}, {[]api.Job{in(1, api.Done, 0), in(2, api.Cancelled, 0), in(3, api.Waits, 0, 1, 2)}, []int{3}},
		// Who needs one that is lost is lost, however far; who needs one that runs, or is Done, isn't.
		{[]api.Job{in(1, api.Ended, 0), in(2, api.Waits, 0, 1), in(3, api.Holds, 0, 2), in(4, api.Waits, 0, 3), in(5, api.Waits, 0)}, []int{2, 3, 4}},
		{[]api.Job{in(1, api.Ended, 0), in(2, api.Runs, 0, 1), in(3, api.Waits, 0, 2)}, nil}, {[]api.Job{in(1, api.Ended, 0), in(2, api.Done, 0, 1), in(3, api.Waits, 0, 2)}, nil},
		// Prio doesn't count.
		{[]api.Job{in(1, api.Ended, 0), urgent(in(2, api.Waits, 0, 1), 1), urgent(in(3, api.Waits, 0, 1), 9), urgent(in(4, api.Waits, 0, 1), -9)}, []int{2, 3, 4}},
	} {
		if got := queue.Lost(c.l); !slices.Equal(got, c.want) {
			t.Errorf("Lost(%+v) = %v, not %v", c.l, got, c.want)
		}
	}
}

// P12.2: how many there are in each state. Told by hand.
func TestCounts(t *testing.T) {
	for _, c := range []struct {
		l    []api.Job
		want [7]int
	}{
		{nil, [7]int{}}, {row(7, 7), [7]int{1, 1, 1, 1, 1, 1, 1}}, {row(64, 1<<30), [7]int{10, 9, 9, 9, 9, 9, 9}}, {chain(64, api.Runs), [7]int{42, 21, 1}},
		{[]api.Job{in(1, 3, 0), in(2, 3, 0), in(3, 6, 0), in(5, 0, 0), in(8, 3, 0)}, [7]int{1, 0, 0, 3, 0, 0, 1}},
	} {
		if got := queue.Counts(c.l); got != c.want {
			t.Errorf("Counts(%+v) = %v, not %v", c.l, got, c.want)
		}
	}
}

// P12.2: all queues of few jobs, in all states, with all needs, and many great ones.
func TestNextByModel(t *testing.T) {
	for _, l := range slices.Concat(rights(), webs(), queues([]int{1, 2, 3, 4}, 0)) {
		wantNext(t, l)
	}
}

// P12.2: of a list that is no queue nothing is told.
func TestNextOfWrong(t *testing.T) {
	for _, l := range wrong() {
		if r, s, c := queue.Ready(l), queue.Lost(l), queue.Counts(l); len(r) > 0 || len(s) > 0 || c != [7]int{} {
			t.Fatalf("of %+v: ready %v, lost %v, counts %v", l, r, s, c)
		}
	}
}

// P12.3: ready and lost are apart, and both wait or are held; who needs nothing is never lost, and is ready, if it waits; counts are as many as there are jobs.
func TestReadyAndLostAreApart(t *testing.T) {
	for _, l := range append(rights(), webs()...) {
		r, s, sum := queue.Ready(l), queue.Lost(l), 0
		for _, n := range queue.Counts(l) {
			sum += n
		}
		if sum != len(l) {
			t.Fatalf("Counts(%+v) = %v", l, queue.Counts(l))
		}
		for _, j := range l {
			isR, isS := slices.Contains(r, j.ID), slices.Contains(s, j.ID)
			if isR && isS || isR && j.State != api.Waits || isS && j.State > api.Holds || len(j.Needs) == 0 && (isS || isR != (j.State == api.Waits)) {
				t.Fatalf("of %+v: ready %v, lost %v", l, r, s)
			}
		}
		if !slices.IsSorted(s) || len(slices.Compact(slices.Sorted(slices.Values(r)))) != len(r) || len(slices.Compact(slices.Clone(s))) != len(s) {
			t.Fatalf("of %+v: ready %v, lost %v", l, r, s)
		}
	}
}

// P12.3: whatever is added and happens, a queue stays one, and all of the above holds; each way it is told anew by its model.
func TestLife(t *testing.T) {
	for seed := range 30 {
		roll := dice(seed)
		var l []api.Job
		now := int64(roll(3))
		if seed%4 == 3 {
			l = row(5+roll(20), 1<<30-roll(30))
			now += 20
		}
		for range 250 {
			now += int64(roll(3) / 2)
			l = stir(t, l, now, roll)
			if !queue.Right(l) {
				t.Fatalf("%+v is no queue", l)
			}
			wantNext(t, l)
		}
	}
}

// stir does something with the queue, mostly such as tells OK, and answers what comes of it.
func stir(t *testing.T, l []api.Job, now int64, roll func(n int) int) []api.Job {
	t.Helper()
	if roll(4) == 0 {
		s := plain()
		s.Prio = roll(5) - 2
		var needs []int
		for _, j := range l {
			if roll(len(l)) < 2 {
				needs = append(needs, j.ID+roll(40)/39)
			}
		}
		wantAdd(t, l, s, needs, now)
		m, _, _ := queue.Add(l, s, needs, now)
		return m
	}
	id := math.MaxInt
	if len(l) > 0 {
		id = l[roll(len(l))].ID + roll(40)/39
	}
	what := []int{1, 2, 2, 3, 3, 3, 3, 4, 4, 4, 5, 6, 7}[roll(13)]
	wantDo(t, l, id, what, now)
	m, _ := queue.Do(l, id, what, now)
	return m
}

// P12.3: what is lost stays lost, and is never ready, whatever happens to the others: nothing leads from an end.
func TestLostStaysLost(t *testing.T) {
	for _, l := range small() {
		gone := queue.Lost(l)
		for _, j := range l {
			for what := 1; what <= 7; what++ {
				m, e := queue.Do(l, j.ID, what, 9)
				if e != api.OK {
					continue
				}
				then, r := queue.Lost(m), queue.Ready(m)
				for _, id := range gone {
					if slices.Contains(r, id) || id != j.ID && !slices.Contains(then, id) {
						// One that was needed and lost may begin all the same: layer 11 doesn't ask who waits for whom.
						if what == api.DoStart && needs(l, id, j.ID) {
							continue
						}
						t.Fatalf("of %+v, behind %d of %d: ready %v, lost %v, not %v", l, what, j.ID, r, then, gone)
					}
				}
			}
		}
	}
}

// needs says whether one needs another, or one that does.
func needs(l []api.Job, id, other int) bool {
	at := slices.IndexFunc(l, func(j api.Job) bool { return j.ID == id })
	return slices.ContainsFunc(l[at].Needs, func(n int) bool { return n == other || needs(l, n, other) })
}
