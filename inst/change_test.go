package inst_test

import (
	"math"
	"slices"
	"testing"

	"bailiwick/api"
	"bailiwick/inst"
	"bailiwick/queue"
)

// P16.2: all short rows of ops, long walks of them, and ops of schedulers that never looked round: each is answered in the document's words.
func TestOps(t *testing.T) {
	many := map[api.Errno]int{}
	tell := func(i api.Inst, op api.Op) {
		_, e := step(t, i, op)
		many[e]++
	}
	every(t, tell)
	walks(t, tell)
	strewns(tell)
	for _, e := range []api.Errno{api.OK, api.ErrArg, api.ErrNone, api.ErrState} {
		if many[e] < 500 {
			t.Error("too few of a kind:", many)
		}
	}
}

// P16.2: of one that isn't right there is an error, it as it is, and nothing else, whatever is asked.
func TestOfNone(t *testing.T) {
	for k, i := range wrong(t) {
		for _, op := range append(siteOps(), submit(cores(1, 1)), do(4, api.DoEnd), do(1, 0), tick(8), lend(9, 0), mark(9, 9)) {
			if got, id, e := done(i, op); e != api.ErrArg || id != 0 || !equal(got, i) {
				t.Errorf("%d, %+v: %+v, %d, %v", k, op, got, id, e)
			}
		}
		if l := inst.Free(i); len(l) > 0 {
			t.Errorf("%d: free are %v", k, l)
		}
	}
}

// P16.2: the document's example.
func TestOneBehindTheOther(t *testing.T) {
	i := made(t, site()[:4], api.Fcfs, 0)
	i, id, e := inst.Submit(i, cores(2, 5), nil)
	if id != 1 || e != api.OK {
		t.Fatal(id, e)
	}
	i, id, e = inst.Submit(i, cores(2, 5), nil)
	if id != 2 || e != api.OK || !slices.Equal(states(i), []int{api.Runs, api.Waits}) {
		t.Fatal(id, e, i)
	}
	i, e = inst.Tick(i, 4)
	if e != api.OK || !slices.Equal(states(i), []int{api.Runs, api.Waits}) {
		t.Fatal(e, i)
	}
	i, e = inst.Tick(i, 5)
	want := api.Inst{Graph: site()[:4], Health: make([]int, 4), Lease: span(0, 3), Until: api.Never, Now: 5, Policy: api.Fcfs,
		Jobs:  []api.Job{{ID: 1, Spec: cores(2, 5), State: api.Ended, To: 5}, {ID: 2, Spec: cores(2, 5), State: api.Runs, From: 5}},
		Table: []api.Held{{ID: 2, Things: []int{2, 3}, From: 5, To: 10}},
	}
	if e != api.OK || !equal(i, want) {
		t.Fatal(e, i)
	}
}

// P16.2: a job more came now, and has the number behind the last one's; it begins at once, if it can.
func TestSubmit(t *testing.T) {
	i := busy(t)
	got, id, e := inst.Submit(i, cores(1, 6), []int{2, 4})
	if e != api.OK || id != 10 || !sameJob(got.Jobs[9], api.Job{ID: 10, Spec: cores(1, 6), Needs: []int{2, 4}, Came: 3}) {
		t.Error(got, id, e)
	}
	i = deep(made(t, site(), api.Conser, 2))
	i.Now, i.Jobs = 5, []api.Job{{ID: 1 << 20, Spec: cores(1, 1), State: api.Done, Came: 2, From: 3, To: 4}}
	got, id, e = inst.Submit(i, cores(1, 6), []int{1 << 20})
	if e != api.OK || id != 1<<20+1 || !sameJob(got.Jobs[1], api.Job{ID: id, Spec: cores(1, 6), Needs: []int{1 << 20}, State: api.Runs, Came: 5, From: 5}) ||
		!slices.EqualFunc(got.Table, []api.Held{{ID: id, Things: []int{2}, From: 5, To: 11}}, sameHeld) {
		t.Error(got, id, e)
	}
}

// P16.2: the errors of a job that can't be added, and the scheduler as it was.
func TestSubmitWrong(t *testing.T) {
	full, last := made(t, site(), api.Fcfs, 0), made(t, site(), api.Fcfs, 0)
	for range api.MaxJobs - 1 {
		full = after(t, full, submit(cores(1, 1)))
	}
	if _, id, e := inst.Submit(full, cores(1, 1), nil); id != 64 || e != api.OK {
		t.Error(id, e)
	}
	full = after(t, full, submit(cores(1, 1)))
	last.Jobs = []api.Job{{ID: 1 << 30, Spec: cores(1, 1)}}
	for _, c := range []struct {
		i  api.Inst
		op api.Op
		e  api.Errno
	}{
		{busy(t), submit(api.Spec{}), api.ErrArg}, {busy(t), submit(cores(65, 1)), api.ErrArg}, {busy(t), submit(cores(1, 0)), api.ErrArg}, {busy(t), submit(cores(1, 1<<40+1)), api.ErrArg},
		{busy(t), submit(cores(1, 1), 0), api.ErrArg}, {busy(t), submit(cores(1, 1), 2, 2), api.ErrArg}, {busy(t), submit(cores(1, 1), 3, 2), api.ErrArg}, {full, submit(cores(1, 1), span(1, 17)...), api.ErrArg},
		{busy(t), submit(cores(1, 1), 10), api.ErrNone}, {busy(t), submit(cores(1, 1), 1, math.MaxInt), api.ErrNone}, {busy(t), submit(api.Spec{}, 10), api.ErrArg}, {full, submit(cores(1, 1), 65), api.ErrNone},
		{full, submit(cores(1, 1)), api.ErrFull}, {full, submit(cores(1, 1), span(1, 16)...), api.ErrFull}, {last, submit(cores(1, 1)), api.ErrOver},
	} {
		if got, id, e := inst.Submit(c.i, c.op.Spec, c.op.Needs); e != c.e || id != 0 || !equal(got, c.i) {
			t.Errorf("%+v: %d, %v", c.op, id, e)
		}
	}
}

// P16.2: what happens to a job, in each state, and what it held when it ends.
func TestDo(t *testing.T) {
	i := busy(t)
	if !slices.Equal(states(i), []int{api.Ended, api.Done, api.Runs, api.Runs, api.Refused, api.Runs, api.Refused, api.Holds, api.Cancelled}) {
		t.Fatal("other states:", states(i))
	}
	for id, may := range [][]int{{}, {}, {api.DoEnd, api.DoCancel}, {api.DoEnd, api.DoCancel}, {}, {api.DoEnd, api.DoCancel}, {}, {api.DoFree, api.DoCancel}, {}} {
		id++
		for what := -1; what <= 9; what++ {
			got, e := inst.Do(i, id, what)
			want := api.ErrState
			if slices.Contains(may, what) {
				want = api.OK
			} else if !slices.Contains([]int{1, 2, 4, 6}, what) {
				want = api.ErrArg
			}
			if e != want || e != api.OK && !equal(got, i) {
				t.Errorf("Do(%d, %d): %v, %+v", id, what, e, got)
			}
			if e == api.OK && id != 8 && (len(got.Table) != 2 || slices.ContainsFunc(got.Table, func(h api.Held) bool { return h.ID == id })) {
				t.Errorf("Do(%d, %d): it holds %v", id, what, got.Table)
			}
			if j, _ := queue.Get(got.Jobs, id); e == api.OK && what >= api.DoEnd && (j.To != 3 || j.State != map[int]int{4: api.Done, 6: api.Cancelled}[what]) {
				t.Errorf("Do(%d, %d): %+v", id, what, j)
			}
		}
	}
}

// P16.2: what may not be asked comes ahead of who isn't there, and that ahead of what doesn't happen now.
func TestDoWrong(t *testing.T) {
	for _, c := range []struct {
		id, what int
		e        api.Errno
	}{
		{4, api.DoStart, api.ErrArg}, {4, api.DoOver, api.ErrArg}, {8, api.DoRefuse, api.ErrArg}, {4, 0, api.ErrArg}, {4, 8, api.ErrArg}, {4, -1, api.ErrArg}, {4, math.MaxInt, api.ErrArg}, {4, math.MinInt, api.ErrArg},
		{0, api.DoStart, api.ErrArg}, {99, api.DoRefuse, api.ErrArg}, {0, api.DoEnd, api.ErrNone}, {-4, api.DoCancel, api.ErrNone}, {10, api.DoHold, api.ErrNone}, {math.MaxInt, api.DoFree, api.ErrNone},
		{4, api.DoHold, api.ErrState}, {4, api.DoFree, api.ErrState}, {8, api.DoHold, api.ErrState}, {8, api.DoEnd, api.ErrState}, {1, api.DoCancel, api.ErrState}, {2, api.DoEnd, api.ErrState},
	} {
		if got, e := inst.Do(busy(t), c.id, c.what); e != c.e || !equal(got, busy(t)) {
			t.Errorf("Do(%d, %d): %v, %+v", c.id, c.what, e, got)
		}
	}
}

// P16.2: who is held back doesn't begin till it is freed.
func TestHoldAndFree(t *testing.T) {
	i := after(t, made(t, site(), api.Easy, 0), submit(cores(2, 4)), submit(cores(2, 4)), do(2, api.DoHold), do(1, api.DoEnd), tick(9))
	if !slices.Equal(states(i), []int{api.Done, api.Holds}) {
		t.Error(states(i))
	}
	i = after(t, i, do(2, api.DoFree))
	if !sameJob(i.Jobs[1], api.Job{ID: 2, Spec: cores(2, 4), State: api.Runs, From: 9}) {
		t.Error(i.Jobs)
	}
}

// P16.2: whose time is over by then end at their own ends, all at once; who begins begins at the time that is now.
func TestTick(t *testing.T) {
	i := after(t, made(t, site(), api.Fcfs, 0), submit(cores(2, 3)), submit(cores(1, 9)), tick(1), submit(cores(2, 4)), submit(api.Spec{Nodes: 1, Gpus: 1, Long: 5}))
	i = after(t, i, tick(10))
	want := []api.Job{
		{ID: 1, Spec: cores(2, 3), State: api.Ended, To: 3}, {ID: 2, Spec: cores(1, 9), State: api.Ended, To: 9},
		{ID: 3, Spec: cores(2, 4), State: api.Runs, Came: 1, From: 10}, {ID: 4, Spec: api.Spec{Nodes: 1, Gpus: 1, Long: 5}, State: api.Runs, Came: 1, From: 10},
	}
	if i.Now != 10 || !slices.EqualFunc(i.Jobs, want, sameJob) {
		t.Error(i.Now, i.Jobs)
	}
	i = after(t, i, tick(13))
	if !slices.EqualFunc(i.Jobs, want, sameJob) {
		t.Error("at 13:", i.Jobs)
	}
	i = after(t, i, tick(14))
	want[2].State, want[2].To = api.Ended, 14
	if !slices.EqualFunc(i.Jobs, want, sameJob) || len(i.Table) != 1 {
		t.Error("at 14:", i.Jobs)
	}
}

// P16.2: the time may stay, and may be Never, at which nobody begins; earlier, or what is no time, it may not be.
func TestTickEdges(t *testing.T) {
	i := busy(t)
	for _, now := range []int64{2, 0, -1, math.MinInt64, api.Never + 1, math.MaxInt64} {
		if got, e := inst.Tick(i, now); e != api.ErrArg || !equal(got, i) {
			t.Errorf("at %d: %v, %+v", now, e, got)
		}
	}
	if got, e := inst.Tick(i, 3); e != api.OK || !equal(got, i) {
		t.Errorf("%v, %+v", e, got)
	}
	i = after(t, i, do(8, api.DoFree), tick(api.Never))
	if !slices.Equal(states(i), []int{api.Ended, api.Done, api.Ended, api.Ended, api.Refused, api.Ended, api.Refused, api.Refused, api.Cancelled}) || len(i.Table) > 0 {
		t.Error(states(i), i.Table)
	}
	if i.Jobs[2].To != 20 || i.Jobs[7].To != api.Never {
		t.Error(i.Jobs)
	}
	i = after(t, i, submit(cores(1, 1)), tick(api.Never))
	if j := i.Jobs[9]; j.State != api.Waits || j.Came != api.Never {
		t.Error(j)
	}
}

// P16.2: who begins close to Never ends at Never.
func TestTickAtNever(t *testing.T) {
	i := after(t, made(t, site(), api.Fcfs, 0), tick(api.Never-2), submit(cores(1, 9)), tick(api.Never-1))
	if !slices.EqualFunc(i.Table, []api.Held{{ID: 1, Things: []int{2}, From: api.Never - 2, To: api.Never}}, sameHeld) {
		t.Error(i.Table)
	}
	if i = after(t, i, tick(api.Never)); i.Jobs[0].State != api.Ended || i.Jobs[0].To != api.Never {
		t.Error(i.Jobs)
	}
}

// P16.2: the lease is this, until this time; any set of its things may be lent, until any time.
func TestLend(t *testing.T) {
	for _, l := range [][]int{nil, {0}, {7}, {1, 2, 7}, span(0, 7)} {
		for _, until := range []int64{0, 1, 3, api.Never - 1, api.Never} {
			got, e := inst.Lend(busy(t), l, until)
			if e != api.OK || !slices.Equal(got.Lease, l) || got.Until != until {
				t.Errorf("Lend(%v, %d): %v, %+v", l, until, e, got)
			}
		}
	}
	for _, l := range [][]int{{8}, {0, 8}, {255}, {256}, {-1}, {1, 0}, {1, 1}, span(0, 8)} {
		if got, e := inst.Lend(busy(t), l, 9); e != api.ErrArg || !equal(got, busy(t)) {
			t.Errorf("Lend(%v): %v, %+v", l, e, got)
		}
	}
	for _, until := range []int64{-1, math.MinInt64, api.Never + 1, math.MaxInt64} {
		if got, e := inst.Lend(busy(t), span(0, 7), until); e != api.ErrArg || !equal(got, busy(t)) {
			t.Errorf("Lend until %d: %v, %+v", until, e, got)
		}
	}
}

// P16.2: a thing is so, and the others are as they were; what it may not be comes ahead of what there isn't.
func TestMark(t *testing.T) {
	i := made(t, site(), api.Easy, 0)
	for n := range 8 {
		for how := range 3 {
			was := []int{0, 1, 2, 0, 0, 1, 2, 0}
			i.Health = slices.Clone(was)
			was[n] = how
			if got, e := inst.Mark(i, n, how); e != api.OK || !slices.Equal(got.Health, was) {
				t.Errorf("Mark(%d, %d): %v, %v", n, how, e, got.Health)
			}
		}
	}
	for _, c := range []struct {
		n, how int
		e      api.Errno
	}{{8, 0, api.ErrNone}, {-1, 2, api.ErrNone}, {math.MaxInt, 1, api.ErrNone}, {math.MinInt, 1, api.ErrNone}, {1, 3, api.ErrArg}, {1, -1, api.ErrArg}, {8, 3, api.ErrArg}, {-1, math.MinInt, api.ErrArg}} {
		if got, e := inst.Mark(busy(t), c.n, c.how); e != c.e || !equal(got, busy(t)) {
			t.Errorf("Mark(%d, %d): %v, %+v", c.n, c.how, e, got)
		}
	}
}
