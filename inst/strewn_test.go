package inst_test

import (
	"math"
	"slices"
	"testing"

	"bailiwick/api"
	"bailiwick/inst"
)

// made is a new scheduler of g.
func made(t *testing.T, g []api.Thing, policy, depth int) api.Inst {
	t.Helper()
	i, e := inst.New(g, policy, depth)
	if e != api.OK {
		t.Fatal("New:", e)
	}
	return i
}

// step is what is answered to an op; it tells where that is otherwise than the document's words.
func step(t *testing.T, i api.Inst, op api.Op) (api.Inst, api.Errno) {
	t.Helper()
	want, number, e := told(i, op)
	got, id, was := done(i, op)
	if was != e || id != number || !equal(got, want) {
		t.Fatalf("of %+v\n%+v:\n%+v, %d, %v, not\n%+v, %d, %v", i, op, got, id, was, want, number, e)
	}
	return got, was
}

// after is the scheduler behind these ops, each of which is answered with OK.
func after(t *testing.T, i api.Inst, ops ...api.Op) api.Inst {
	t.Helper()
	for _, op := range ops {
		next, e := step(t, i, op)
		if e != api.OK {
			t.Fatalf("of %+v\n%+v: %v", i, op, e)
		}
		i = next
	}
	return i
}

// states are the states of the jobs, as they stand.
func states(i api.Inst) []int {
	var l []int
	for _, j := range i.Jobs {
		l = append(l, j.State)
	}
	return l
}

// siteOps are ops of which each does something to site's scheduler in some state, and some that may not be.
func siteOps() []api.Op {
	urgent := cores(2, 2)
	urgent.Prio = 1
	return []api.Op{
		submit(cores(2, 3)), submit(cores(1, 2), 1), submit(urgent), submit(api.Spec{Nodes: 2, Cores: 1, Long: 2}), submit(api.Spec{Nodes: 1, Cores: 3, Long: 1}),
		do(1, api.DoEnd), do(1, api.DoCancel), do(2, api.DoHold), do(2, api.DoFree), do(1, api.DoStart), do(9, api.DoEnd),
		tick(2), tick(3), tick(1 << 50),
		lend(api.Never, span(0, 3)...), lend(2, span(0, 7)...), lend(9), lend(9, 8),
		mark(1, api.Drain), mark(3, api.Down), mark(1, api.Fine), mark(8, api.Fine),
	}
}

// every tells of all ops, behind all of up to three ones, of site's schedulers with each policy; what is alike is told once.
func every(t *testing.T, tell func(i api.Inst, op api.Op)) {
	t.Helper()
	for _, p := range [][2]int{{1, 0}, {2, 0}, {3, 2}} {
		level := []api.Inst{made(t, site(), p[0], p[1])}
		for range 3 {
			var next []api.Inst
			for _, i := range level {
				for _, op := range siteOps() {
					tell(i, op)
					if out, _, e := done(i, op); e == api.OK {
						next = append(next, out)
					}
				}
			}
			level = next
		}
	}
}

// anySpec is a spec that farm could have, or mostly; site could have each second one.
func anySpec(roll func(n int) int) api.Spec {
	if roll(2) == 0 {
		return api.Spec{Nodes: 1, Cores: 1 + roll(2), Long: int64(1 + roll(12)), Prio: roll(3) - 1}
	}
	s := api.Spec{Nodes: 1 + roll(3), Cores: roll(4), Gpus: max(0, roll(4)-1), Whole: roll(8) == 0, Long: int64(1 + roll(25)), Prio: roll(5) - 2}
	if roll(4) == 0 {
		s.Tag = "b"
	}
	if roll(9) == 0 {
		s.Nodes = 1 + roll(30)
	}
	if s.Cores+s.Gpus == 0 && !s.Whole && roll(9) > 0 {
		s.Cores = 1
	}
	return s
}

// anyNeeds are some of the scheduler's jobs, mostly; seldom other numbers.
func anyNeeds(i api.Inst, roll func(n int) int) []int {
	var l []int
	for _, j := range i.Jobs {
		if roll(len(i.Jobs)) == 0 && len(l) < 16 {
			l = append(l, j.ID)
		}
	}
	if roll(25) == 0 {
		l = append(l, roll(70)-1)
	}
	return l
}

// anySet is a set of numbers up to one, of which most are there; seldom it is none.
func anySet(most int, roll func(n int) int) []int {
	few := 1 + roll(30)
	l := slices.DeleteFunc(span(0, most), func(int) bool { return roll(few) == 0 })
	if roll(20) == 0 && len(l) > 2 {
		l[1] = l[2]
	}
	return l
}

// anyOp is an op of a scheduler: mostly one that may be.
func anyOp(i api.Inst, roll func(n int) int) api.Op {
	last := 1
	if n := len(i.Jobs); n > 0 {
		last = i.Jobs[n-1].ID
	}
	switch roll(16) {
	case 0, 1, 2, 3, 4, 5:
		return submit(anySpec(roll), anyNeeds(i, roll)...)
	case 6, 7:
		return do(1+roll(last+1), roll(9)-1)
	case 8, 9:
		if len(i.Table) > 0 {
			return do(i.Table[roll(len(i.Table))].ID, api.DoEnd)
		}
		return do(last, api.DoFree)
	case 10, 11, 12:
		return tick(i.Now + int64(roll(12)) - 1)
	case 13:
		return lend(i.Now+int64(roll(60))-5, anySet(len(i.Graph)-1+max(0, roll(20)-18), roll)...)
	case 14:
		return lend(api.Never, span(0, len(i.Graph)-1)...)
	}
	return mark(roll(len(i.Graph)+2)-1, max(-1, roll(8)-4))
}

// walks tells of ops of site's and farm's schedulers, one behind the other, from new ones on.
func walks(t *testing.T, tell func(i api.Inst, op api.Op)) {
	t.Helper()
	for seed := range 80 {
		roll := dice(seed)
		g := site()
		if seed%4 == 3 {
			g = farm()
		}
		i := made(t, g, 1+roll(3), roll(65))
		if seed%5 == 4 {
			i, _ = inst.Tick(i, api.Never-90)
		}
		for range 90 {
			op := anyOp(i, roll)
			tell(i, op)
			if out, _, e := done(i, op); e == api.OK {
				i = out
			}
		}
	}
}

// anyJob is a job behind those of a queue, that came by now, in any state.
func anyJob(l []api.Job, now int64, roll func(n int) int) api.Job {
	often := []int{api.Waits, api.Waits, api.Waits, api.Waits, api.Holds, api.Holds, api.Runs, api.Runs, api.Runs, api.Done, api.Done, api.Done, api.Ended, api.Cancelled, api.Refused}
	j := api.Job{ID: 1 + roll(3), Spec: anySpec(roll), State: often[roll(len(often))], Came: int64(roll(3))}
	if n := len(l); n > 0 {
		j.ID += l[n-1].ID
		j.Came = min(now, j.Came+l[n-1].Came)
	}
	j.Spec.Cores = max(1, j.Spec.Cores)
	for _, o := range l {
		if roll(2*len(l)) == 0 {
			j.Needs = append(j.Needs, o.ID)
		}
	}
	if j.State == api.Runs || j.State == api.Done || j.State == api.Ended {
		j.From = j.Came + int64(roll(int(now-j.Came)+1))
		j.Spec.Long = now - j.From + 1 + int64(roll(9))
	}
	if j.State > api.Runs {
		j.To = now
	}
	return j
}

// strewn is a scheduler that is right, and that may not have looked round ever: jobs in any states, holdings of any things.
func strewn(g []api.Thing, roll func(n int) int) api.Inst {
	i := api.Inst{Graph: g, Lease: slices.Compact(anySet(len(g)-1, roll)), Until: api.Never, Now: int64(10 + roll(20)), Policy: 1 + roll(3), Depth: roll(65)}
	for range g {
		i.Health = append(i.Health, max(0, roll(20)-17))
	}
	if roll(3) == 0 {
		i.Until = int64(roll(60))
	}
	left := span(0, len(g)-1)
	for range roll(20) {
		j := anyJob(i.Jobs, i.Now, roll)
		if j.State == api.Runs && len(left) == 0 {
			j.State, j.From = api.Holds, 0
		}
		if j.State == api.Runs {
			var things []int
			for range 1 + roll(min(3, len(left))) {
				at := roll(len(left))
				things = append(things, left[at])
				left = slices.Delete(left, at, at+1)
			}
			slices.Sort(things)
			i.Table = append(i.Table, api.Held{ID: j.ID, Things: things, From: j.From, To: j.From + j.Spec.Long})
		}
		i.Jobs = append(i.Jobs, j)
	}
	return i
}

// strewns tells of some ops of each of many such schedulers.
func strewns(tell func(i api.Inst, op api.Op)) {
	for seed := range 900 {
		roll := dice(seed)
		g := site()
		if seed%8 == 7 {
			g = farm()
		}
		i := strewn(g, roll)
		for range 4 {
			tell(i, anyOp(i, roll))
		}
		tell(i, tick(i.Now))
	}
}

// busy is a scheduler of site with jobs in all states, of which three run.
func busy(t *testing.T) api.Inst {
	t.Helper()
	gpu := api.Spec{Nodes: 1, Gpus: 1, Long: 20}
	return after(t, made(t, site(), api.Easy, 3),
		submit(cores(2, 3)), submit(cores(1, 9)), submit(gpu), tick(1),
		submit(cores(2, 4)), submit(cores(1, 5), 1), do(2, api.DoEnd), submit(cores(1, 30), 2),
		submit(cores(9, 1)), submit(cores(1, 1), 4), do(8, api.DoHold), tick(3), submit(cores(1, 2), 2), do(9, api.DoCancel),
	)
}

// wrong are copies of a right one, each of which isn't right at one place.
func wrong(t *testing.T) []api.Inst {
	t.Helper()
	var l []api.Inst
	for _, spoil := range spoils() {
		i := deep(busy(t))
		spoil(&i)
		l = append(l, i)
	}
	return append(l, api.Inst{})
}

// spoils are what makes a busy scheduler none, at its edges and beyond them.
func spoils() []func(i *api.Inst) {
	return []func(i *api.Inst){
		func(i *api.Inst) { i.Graph, i.Health = nil, nil },
		func(i *api.Inst) { i.Graph[2].Up = 2 },
		func(i *api.Inst) { i.Graph[7].Tag = "a" },
		func(i *api.Inst) { i.Graph = i.Graph[:7] },
		func(i *api.Inst) { i.Health = i.Health[:7] },
		func(i *api.Inst) { i.Health = append(i.Health, 0) },
		func(i *api.Inst) { i.Health = nil },
		func(i *api.Inst) { i.Health[7] = 3 },
		func(i *api.Inst) { i.Health[0] = -1 },
		func(i *api.Inst) { i.Lease = append(i.Lease, 8) },
		func(i *api.Inst) { i.Lease = append(i.Lease, 300) },
		func(i *api.Inst) { i.Lease[0] = -1 },
		func(i *api.Inst) { i.Lease[1] = 0 },
		func(i *api.Inst) { i.Lease[1], i.Lease[2] = 2, 1 },
		func(i *api.Inst) { i.Until = -1 },
		func(i *api.Inst) { i.Until = math.MinInt64 },
		func(i *api.Inst) { i.Until = api.Never + 1 },
		func(i *api.Inst) { i.Until = math.MaxInt64 },
		func(i *api.Inst) { i.Now = -1 },
		func(i *api.Inst) { i.Now = api.Never + 1 },
		func(i *api.Inst) { i.Jobs, i.Table, i.Now = nil, nil, -1 },
		func(i *api.Inst) { i.Jobs, i.Table, i.Now = nil, nil, math.MinInt64 },
		func(i *api.Inst) { i.Jobs, i.Table, i.Now = nil, nil, api.Never+1 },
		func(i *api.Inst) { i.Jobs, i.Table, i.Now = i.Jobs[:2], nil, math.MaxInt64 },
		func(i *api.Inst) { i.Now = 2 },
		func(i *api.Inst) { i.Now = 7 },
		func(i *api.Inst) { i.Policy = 0 },
		func(i *api.Inst) { i.Policy = 4 },
		func(i *api.Inst) { i.Policy = -1 },
		func(i *api.Inst) { i.Depth = -1 },
		func(i *api.Inst) { i.Depth = 65 },
		func(i *api.Inst) { i.Depth = math.MinInt },
		func(i *api.Inst) { i.Jobs[8].Came = 4 },
		func(i *api.Inst) { i.Jobs[0].ID = 0 },
		func(i *api.Inst) { i.Jobs[4].ID = 4 },
		func(i *api.Inst) { i.Jobs[4].Needs[0] = 5 },
		func(i *api.Inst) { i.Jobs[4].State = 7 },
		func(i *api.Inst) { i.Jobs[3].Spec.Cores = 65 },
		func(i *api.Inst) { i.Jobs = nil },
		func(i *api.Inst) { i.Jobs[2].State = api.Waits },
		func(i *api.Inst) { i.Jobs[2].State, i.Jobs[2].From = api.Waits, 0 },
		func(i *api.Inst) { i.Jobs[2].State, i.Jobs[2].To = api.Done, 3 },
		func(i *api.Inst) { i.Jobs[4].State, i.Jobs[4].From = api.Runs, 3 },
		func(i *api.Inst) { i.Jobs[2].From++ },
		func(i *api.Inst) { i.Jobs[2].Spec.Long++ },
		func(i *api.Inst) { i.Jobs[2].From, i.Table[0].From, i.Table[0].To = 4, 4, 24 },
		func(i *api.Inst) { i.Table = nil },
		func(i *api.Inst) { i.Table = i.Table[1:] },
		func(i *api.Inst) { i.Table = i.Table[:2] },
		func(i *api.Inst) { i.Table = slices.Delete(i.Table, 1, 2) },
		func(i *api.Inst) { i.Table = append(i.Table, api.Held{ID: 8, Things: []int{0}, From: 3, To: 4}) },
		func(i *api.Inst) {
			i.Table = slices.Insert(i.Table, 0, api.Held{ID: 2, Things: []int{0}, From: 0, To: 9})
		},
		func(i *api.Inst) { i.Table = append(i.Table, api.Held{ID: 10, Things: []int{0}, From: 3, To: 4}) },
		func(i *api.Inst) { i.Table[0].ID = 2 },
		func(i *api.Inst) { i.Table[2].ID = 7 },
		func(i *api.Inst) { i.Table[0], i.Table[1] = i.Table[1], i.Table[0] },
		func(i *api.Inst) { i.Table[0].From++ },
		func(i *api.Inst) { i.Table[0].To++ },
		func(i *api.Inst) { i.Table[0].To-- },
		func(i *api.Inst) { i.Table[0].Things = nil },
		func(i *api.Inst) { i.Table[0].Things[0] = 8 },
		func(i *api.Inst) { i.Table[0].Things = append(i.Table[0].Things, 255) },
		func(i *api.Inst) { i.Table[0].Things = append(i.Table[0].Things, 256) },
		func(i *api.Inst) { i.Table[0].Things = i.Table[1].Things },
		func(i *api.Inst) { i.Table[0].Things = []int{7, 4} },
	}
}
