package inst_test

import (
	"slices"
	"testing"

	"bailiwick/api"
	"bailiwick/health"
	"bailiwick/inst"
	"bailiwick/pick"
	"bailiwick/queue"
	"bailiwick/set"
)

// begun are the jobs that run in the second, and didn't in the first.
func begun(was, is api.Inst) []api.Job {
	return slices.DeleteFunc(slices.Clone(is.Jobs), func(j api.Job) bool {
		o, _ := queue.Get(was.Jobs, j.ID)
		return j.State != api.Runs || o.State == api.Runs
	})
}

// each tells of ops, each behind others from a new scheduler on, that were answered with OK, and of both schedulers.
func each(t *testing.T, tell func(was api.Inst, op api.Op, is api.Inst)) {
	t.Helper()
	all := func(i api.Inst, op api.Op) {
		if out, _, e := done(i, op); e == api.OK {
			tell(i, op, out)
		}
	}
	every(t, all)
	walks(t, all)
}

// P16.4: it stays right; what runs is in the lease and works, and is held by one job alone, as much as it asks for.
func TestWhatRunsIsItsOwn(t *testing.T) {
	many := 0
	each(t, func(_ api.Inst, op api.Op, is api.Inst) {
		if !inst.Right(is) {
			t.Fatalf("behind %+v: %+v", op, is)
		}
		works := health.Works(is.Graph, is.Health)
		var all []int
		for _, j := range is.Jobs {
			at := slices.IndexFunc(is.Table, func(h api.Held) bool { return h.ID == j.ID })
			if (at >= 0) != (j.State == api.Runs) {
				t.Fatalf("behind %+v: %+v holds, or doesn't: %v", op, j, is.Table)
			}
			if at < 0 {
				continue
			}
			l := is.Table[at].Things
			if !set.Part(l, is.Lease) || !set.Part(l, works) || !set.Apart(l, all) || !j.Spec.Whole && len(l) != j.Spec.Nodes*(j.Spec.Cores+j.Spec.Gpus) {
				t.Fatalf("behind %+v: %+v runs on %v: %+v", op, j, l, is)
			}
			all = set.Join(all, l)
			many++
		}
		if !set.Apart(all, inst.Free(is)) {
			t.Fatalf("behind %+v: %v are free, %v held", op, inst.Free(is), all)
		}
	})
	if many < 4000 {
		t.Error("too few run:", many)
	}
}

// P16.4: a job that needs others begins only behind them.
func TestBeginsBehindWhomItNeeds(t *testing.T) {
	many := 0
	each(t, func(was api.Inst, op api.Op, is api.Inst) {
		for _, j := range begun(was, is) {
			for _, n := range j.Needs {
				if o, _ := queue.Get(is.Jobs, n); o.State != api.Done || o.To > j.From {
					t.Fatalf("behind %+v: %+v begins, and %+v", op, j, o)
				}
				many++
			}
		}
	})
	if many < 150 {
		t.Error("too few need others:", many)
	}
}

// P16.4: who begins begins now, on what was free, may be used and is had, for no longer than all is had; nobody begins twice.
func TestBeginsNow(t *testing.T) {
	many := 0
	each(t, func(was api.Inst, op api.Op, is api.Inst) {
		for _, j := range begun(was, is) {
			many++
			o, there := queue.Get(was.Jobs, j.ID)
			at := slices.IndexFunc(is.Table, func(h api.Held) bool { return h.ID == j.ID })
			h := is.Table[at]
			if j.From != is.Now || h.To > is.Until || there && o.State != api.Waits && o.State != api.Holds || !set.Part(h.Things, set.Meet(is.Lease, health.Usable(is.Graph, is.Health))) {
				t.Fatalf("behind %+v: %+v begins: %+v", op, j, is)
			}
		}
	})
	if many < 1000 {
		t.Error("too few begin:", many)
	}
}

// P16.4: nobody that waits could begin by the policy, and nobody waits for what will never be, but those that needed whom it refused just now.
func TestNobodyIsLeft(t *testing.T) {
	each(t, func(was api.Inst, op api.Op, is api.Inst) {
		var list []api.Want
		for _, id := range queue.Ready(is.Jobs) {
			j, _ := queue.Get(is.Jobs, id)
			list = append(list, api.Want{ID: id, Spec: j.Spec})
		}
		use := set.Meet(is.Lease, health.Usable(is.Graph, is.Health))
		begin, _, e := pick.Pick(is.Graph, use, is.Table, list, is.Now, is.Until, is.Policy, is.Depth)
		// For whom slots were kept, they are kept again: nobody behind gets more than the first time.
		if e != api.OK || len(begin) > 0 {
			t.Fatalf("behind %+v: %v could begin: %+v", op, begin, is)
		}
		for _, id := range queue.Lost(is.Jobs) {
			j, _ := queue.Get(is.Jobs, id)
			if !slices.ContainsFunc(j.Needs, func(n int) bool {
				o, _ := queue.Get(is.Jobs, n)
				return o.State == api.Refused && o.To == is.Now || o.State == api.Waits || o.State == api.Holds
			}) {
				t.Fatalf("behind %+v: %d is lost: %+v", op, id, is)
			}
		}
	})
}

// P16.4: once time alone goes on, all of them come to their ends.
func TestToAnEnd(t *testing.T) {
	for seed := range 40 {
		roll := dice(seed)
		g := site()
		if seed%2 == 1 {
			g = farm()
		}
		i := made(t, g, 1+seed%3, roll(65))
		for range 70 {
			if out, _, e := done(i, anyOp(i, roll)); e == api.OK {
				i = out
			}
		}
		i = after(t, i, mark(0, api.Fine), lend(api.Never, span(0, len(g)-1)...))
		for n, how := range i.Health {
			if how != api.Fine {
				i = after(t, i, mark(n, api.Fine))
			}
		}
		for _, j := range i.Jobs {
			if j.State == api.Holds {
				i = after(t, i, do(j.ID, api.DoFree))
			}
		}
		for range 2 * api.MaxJobs {
			next := api.Never
			for _, h := range i.Table {
				next = min(next, h.To)
			}
			if next < api.Never {
				i = after(t, i, tick(next))
			}
		}
		for _, j := range i.Jobs {
			needed := slices.ContainsFunc(j.Needs, func(n int) bool { o, _ := queue.Get(i.Jobs, n); return o.State != api.Done })
			if j.State <= api.Runs && !needed {
				t.Fatalf("seed %d: %+v is left: %+v", seed, j, i)
			}
		}
	}
}
