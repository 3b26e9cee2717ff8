package inst_test

import (
	"slices"
	"testing"

	"bailiwick/api"
	"bailiwick/inst"
)

// calm is a scheduler of site at 5 with these jobs, that never looked round.
func calm(policy int, jobs ...api.Job) api.Inst {
	return api.Inst{Graph: site(), Health: make([]int, 8), Lease: span(0, 7), Until: api.Never, Now: 5, Policy: policy, Depth: 4, Jobs: jobs}
}

// in is a job of a core that came at 1, in a state.
func in(id, state int, needs ...int) api.Job {
	j := api.Job{ID: id, Spec: cores(1, 9), Needs: needs, State: state, Came: 1}
	switch state {
	case api.Runs:
		j.From = 2
	case api.Done, api.Ended:
		j.From, j.To = 2, 4
	case api.Cancelled, api.Refused:
		j.To = 4
	}
	return j
}

// wantStates tells where the jobs are in other states behind ops.
func wantStates(t *testing.T, i api.Inst, want []int, ops ...api.Op) api.Inst {
	t.Helper()
	i = after(t, i, ops...)
	if !slices.Equal(states(i), want) {
		t.Errorf("behind %+v: %v, not %v", ops, states(i), want)
	}
	return i
}

// P16.2: it looks round behind each op that told OK, and behind no other.
func TestLooksRound(t *testing.T) {
	i := calm(api.Fcfs, in(1, api.Waits), in(2, api.Cancelled))
	for _, op := range []api.Op{submit(cores(2, 1)), do(1, api.DoHold), tick(5), tick(6), lend(9, 0), lend(api.Never, span(0, 7)...), mark(4, api.Drain), mark(0, api.Down)} {
		got, _, e := done(i, op)
		free := op.Kind != api.OpDo && !slices.Equal(op.Set, []int{0}) && !(op.Kind == api.OpMark && op.ID == 0)
		if e != api.OK || free != (got.Jobs[0].State == api.Runs) {
			t.Errorf("%+v: %v, %v", op, e, states(got))
		}
	}
	for _, op := range []api.Op{submit(api.Spec{}), submit(cores(1, 1), 7), do(1, api.DoEnd), do(2, api.DoCancel), do(7, api.DoHold), tick(4), lend(9, 9), mark(9, 0)} {
		if got, _, e := done(i, op); e == api.OK || !equal(got, i) {
			t.Errorf("%+v: %v, %+v", op, e, got)
		}
	}
}

// P16.2: who runs on what isn't in the lease any more is over, at once and at this time; who runs elsewhere goes on.
func TestOverWithoutLease(t *testing.T) {
	i := after(t, made(t, site(), api.Fcfs, 0), submit(cores(2, 9)), submit(cores(1, 9)), tick(4))
	for _, c := range []struct {
		lease []int
		want  []int
	}{
		{span(0, 7), []int{api.Runs, api.Runs}}, {span(2, 6), []int{api.Runs, api.Runs}}, {[]int{2, 3}, []int{api.Runs, api.Ended}}, {[]int{0, 1, 2, 4, 5, 6, 7}, []int{api.Ended, api.Runs}},
		{[]int{6}, []int{api.Ended, api.Runs}}, {nil, []int{api.Ended, api.Ended}}, {[]int{0, 1, 4, 5, 7}, []int{api.Ended, api.Ended}},
	} {
		got := wantStates(t, i, c.want, lend(api.Never, c.lease...))
		for _, j := range got.Jobs {
			if j.State == api.Ended && j.To != 4 {
				t.Error(j)
			}
		}
	}
	// That all is had for a short time only ends nobody who runs.
	wantStates(t, i, []int{api.Runs, api.Runs}, lend(0, span(0, 7)...), tick(8))
}

// P16.2: who runs on what doesn't work is over; on what is drained it goes on, and nobody begins there.
func TestOverWhereItDoesNotWork(t *testing.T) {
	i := after(t, made(t, site(), api.Fcfs, 0), submit(cores(2, 9)), submit(cores(1, 9)), tick(4))
	for n, down := range [][]int{{4, 4}, {4, 2}, {4, 2}, {4, 2}, {2, 4}, {2, 4}, {2, 4}, {2, 2}} {
		wantStates(t, i, []int{api.Runs, api.Runs}, mark(n, api.Drain))
		got := wantStates(t, i, down, mark(n, api.Down))
		for _, j := range got.Jobs {
			if j.State == api.Ended && j.To != 4 {
				t.Error(j)
			}
		}
	}
	wantStates(t, i, []int{api.Runs, api.Runs, api.Waits}, mark(1, api.Drain), submit(cores(1, 1)))
	wantStates(t, i, []int{api.Ended, api.Runs, api.Waits}, mark(1, api.Drain), submit(cores(1, 1)), mark(2, api.Down))
	wantStates(t, i, []int{api.Ended, api.Ended, api.Runs}, mark(1, api.Drain), submit(cores(1, 1)), tick(9), mark(1, api.Fine))
}

// P16.2: what comes free as somebody is over is had by the next one in the same look round.
func TestNextBegins(t *testing.T) {
	i := after(t, made(t, site(), api.Fcfs, 0), submit(api.Spec{Nodes: 2, Cores: 1, Long: 9}), submit(cores(1, 9)), submit(cores(1, 3)), tick(4))
	got := wantStates(t, i, []int{api.Ended, api.Runs, api.Runs}, mark(5, api.Down))
	if !slices.EqualFunc(got.Table, []api.Held{{ID: 2, Things: []int{3}, From: 0, To: 9}, {ID: 3, Things: []int{2}, From: 4, To: 7}}, sameHeld) {
		t.Error(got.Table)
	}
}

// P16.2: who could never get what it asks for is refused, in line or held back; who could, if all were free, had and fine, is not.
func TestRefusesWhatNeverIs(t *testing.T) {
	i := made(t, site(), api.Fcfs, 0)
	for _, s := range []api.Spec{cores(3, 1), {Nodes: 3, Cores: 1, Long: 1}, {Nodes: 2, Gpus: 1, Long: 1}, {Nodes: 1, Cores: 1, Tag: "b", Long: 1}, {Nodes: 1, Cores: 2, Gpus: 1, Long: 1}} {
		got := wantStates(t, i, []int{api.Refused}, tick(3), submit(s))
		if j := got.Jobs[0]; j.Came != 3 || j.To != 3 || j.From != 0 {
			t.Error(j)
		}
	}
	wantStates(t, i, []int{api.Waits}, lend(9), submit(cores(2, 1)))
	wantStates(t, i, []int{api.Waits}, mark(0, api.Down), submit(cores(2, 1)))
	wantStates(t, i, []int{api.Waits}, lend(9, span(0, 7)...), submit(cores(2, 10)))
	wantStates(t, i, []int{api.Runs, api.Waits}, submit(cores(2, 9)), submit(cores(2, 9)))
	held, runs := in(2, api.Holds), in(3, api.Runs)
	held.Spec.Cores, runs.Spec.Cores = 3, 3
	i = calm(api.Fcfs, in(1, api.Done), held, runs)
	i.Table = []api.Held{{ID: 3, Things: []int{2}, From: 2, To: 11}}
	wantStates(t, i, []int{api.Done, api.Refused, api.Runs}, tick(6))
}

// P16.2: who is lost is refused, in line or held back, in the same look round in which whom it needs is over, and through others.
func TestRefusesTheLost(t *testing.T) {
	i := after(t, made(t, site(), api.Fcfs, 0), submit(cores(2, 9)), submit(cores(1, 1), 1), submit(cores(1, 1), 1, 2), submit(cores(1, 1), 3), do(3, api.DoHold), submit(cores(1, 3)), tick(4))
	wantStates(t, i, []int{api.Ended, api.Refused, api.Refused, api.Refused, api.Ended}, lend(api.Never))
	wantStates(t, i, []int{api.Ended, api.Refused, api.Refused, api.Refused, api.Ended}, mark(3, api.Down))
	wantStates(t, i, []int{api.Cancelled, api.Refused, api.Refused, api.Refused, api.Ended}, do(1, api.DoCancel))
	wantStates(t, i, []int{api.Runs, api.Cancelled, api.Refused, api.Refused, api.Ended}, do(2, api.DoCancel))
	wantStates(t, i, []int{api.Runs, api.Waits, api.Cancelled, api.Refused, api.Ended}, do(3, api.DoCancel))
	wantStates(t, i, []int{api.Done, api.Runs, api.Holds, api.Waits, api.Ended}, do(1, api.DoEnd))
	got := wantStates(t, i, []int{api.Ended, api.Refused, api.Refused, api.Refused, api.Ended}, tick(20))
	if got.Jobs[0].To != 9 || got.Jobs[1].To != 20 || got.Jobs[3].To != 20 {
		t.Error(got.Jobs)
	}
}

// P16.2: who is lost is so by the queue ahead of who is refused: one that needs one that is refused now is lost the next time.
func TestLostTheNextTime(t *testing.T) {
	never := in(1, api.Waits)
	never.Spec.Cores = 3
	i := calm(api.Conser, never, in(2, api.Waits, 1), in(3, api.Holds, 2), in(4, api.Waits, 1))
	i = wantStates(t, i, []int{api.Refused, api.Waits, api.Holds, api.Waits}, tick(6))
	i = wantStates(t, i, []int{api.Refused, api.Refused, api.Refused, api.Refused}, tick(6))
	wantStates(t, i, []int{api.Refused, api.Refused, api.Refused, api.Refused, api.Refused}, submit(cores(1, 1), 2))
}

// P16.2: those who are ready begin by Prio and number, as the policy says.
func TestBeginsByPolicy(t *testing.T) {
	two := api.Spec{Nodes: 2, Cores: 1, Long: 9}
	urgent := cores(2, 4)
	urgent.Prio = 1
	jobs := func() []api.Job {
		return []api.Job{in(1, api.Runs), {ID: 2, Spec: two, Came: 3}, {ID: 3, Spec: cores(1, 2), Came: 3}, {ID: 4, Spec: cores(1, 9), Came: 3}, {ID: 5, Spec: urgent, Came: 3}, {ID: 6, Spec: cores(1, 4), Came: 3}}
	}
	for _, c := range []struct {
		policy, depth int
		want          []int
	}{
		// 5, the most urgent one, needs both cores of node 1, of which one is held till 11.
		{api.Fcfs, 9, []int{2, 0, 0, 0, 0, 0}},
		{api.Easy, 0, []int{2, 0, 2, 2, 0, 0}},
		{api.Conser, 0, []int{2, 2, 0, 0, 0, 0}},
		{api.Conser, 1, []int{2, 0, 2, 2, 0, 0}},
		// What is kept for 2 too, from 15 on, is what 4 would hold till 16.
		{api.Conser, 2, []int{2, 0, 2, 0, 0, 2}},
	} {
		i := calm(c.policy, jobs()...)
		i.Depth, i.Now = c.depth, 7
		i.Table = []api.Held{{ID: 1, Things: []int{3}, From: 2, To: 11}}
		wantStates(t, i, c.want, tick(7))
	}
}

// P16.2: nobody begins on what it hasn't, on what may not be used, or for longer than all is had.
func TestBeginsOnItsOwn(t *testing.T) {
	i := made(t, site(), api.Easy, 0)
	for _, c := range []struct {
		ops []api.Op
		out []int
	}{
		{[]api.Op{lend(api.Never, 4, 5, 6)}, []int{6}}, {[]api.Op{lend(api.Never, 0, 1, 3, 5, 6)}, []int{3}}, {[]api.Op{lend(api.Never, 2, 3, 6)}, nil}, {[]api.Op{mark(1, api.Drain)}, []int{6}}, {[]api.Op{mark(2, api.Drain)}, []int{3}},
		{[]api.Op{mark(0, api.Drain)}, nil}, {[]api.Op{mark(1, api.Down), mark(4, api.Drain)}, nil}, {[]api.Op{lend(5, span(0, 7)...)}, []int{2}}, {[]api.Op{lend(4, span(0, 7)...)}, nil},
		{[]api.Op{lend(5, span(0, 7)...), tick(1)}, nil}, {[]api.Op{lend(0, span(0, 7)...)}, nil}, {[]api.Op{lend(api.Never-1, span(0, 7)...), tick(api.Never - 4)}, nil}, {[]api.Op{tick(api.Never - 4)}, []int{2}},
	} {
		got, _, e := inst.Submit(after(t, i, c.ops...), cores(1, 5), nil)
		if e != api.OK || len(c.out) == 0 && len(got.Table) > 0 || len(c.out) > 0 && (len(got.Table) != 1 || !slices.Equal(got.Table[0].Things, c.out)) {
			t.Errorf("%+v: %v, %+v", c.ops, e, got)
		}
	}
}
