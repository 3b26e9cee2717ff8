package inst_test

import (
	"math"
	"slices"
	"testing"

	"bailiwick/api"
	"bailiwick/inst"
)

// P16.1: what has come from New on is right, and so is one that never looked round.
func TestRight(t *testing.T) {
	tell := func(i api.Inst, op api.Op) {
		if out, _, e := done(i, op); !inst.Right(i) || !right(i) || !inst.Right(out) {
			t.Fatalf("not right: %+v\n%+v, %v: %+v", i, op, e, out)
		}
	}
	every(t, tell)
	walks(t, tell)
	strewns(tell)
}

// P16.1: what isn't right at one place isn't right.
func TestNotRight(t *testing.T) {
	if !inst.Right(busy(t)) {
		t.Fatal("nothing to spoil")
	}
	for k, i := range wrong(t) {
		if inst.Right(i) || right(i) {
			t.Errorf("%d: right: %+v", k, i)
		}
	}
}

// P16.1: the edges up to which it is right, told by hand.
func TestRightEdges(t *testing.T) {
	for k, edge := range []func(i *api.Inst){
		func(i *api.Inst) {},
		func(i *api.Inst) { i.Lease, i.Until, i.Depth, i.Policy = nil, 0, 0, api.Fcfs },
		func(i *api.Inst) { i.Lease, i.Until, i.Depth, i.Policy = []int{0, 7}, api.Never, 64, api.Conser },
		func(i *api.Inst) { i.Now = 6 },
		func(i *api.Inst) { i.Health = []int{2, 2, 2, 2, 2, 2, 2, 2} },
		func(i *api.Inst) { i.Jobs, i.Table, i.Now = nil, nil, api.Never },
		func(i *api.Inst) { i.Jobs, i.Table, i.Now = nil, nil, 0 },
		func(i *api.Inst) { i.Table[0].Things = span(0, 1) },
		func(i *api.Inst) { i.Table[1].Things = span(0, 5) },
		func(i *api.Inst) { i.Jobs[1].To = api.Never },
		func(i *api.Inst) {
			i.Jobs[2].From, i.Table[0].From, i.Table[0].To = 3, 3, 23
		},
		func(i *api.Inst) {
			// Its end would be beyond Never, so it is Never.
			i.Jobs, i.Table, i.Now = i.Jobs[:1], i.Table[:1], api.Never-1
			i.Jobs[0].State, i.Jobs[0].From, i.Jobs[0].To = api.Runs, api.Never-2, 0
			i.Table[0] = api.Held{ID: 1, Things: []int{2}, From: api.Never - 2, To: api.Never}
		},
	} {
		i := deep(busy(t))
		edge(&i)
		if !inst.Right(i) || !right(i) {
			t.Errorf("%d: not right: %+v", k, i)
		}
	}
}

// P16.1: breaking any number of a right one by a little leaves it right just where the document says so.
func TestRightNearby(t *testing.T) {
	many := map[bool]int{}
	for seed := range 4000 {
		roll := dice(seed)
		i := strewn(site(), roll)
		nudge(&i, roll)
		if got := inst.Right(i); got != right(i) {
			t.Fatalf("%v: %+v", got, i)
		} else {
			many[got]++
		}
	}
	if many[true] < 500 || many[false] < 500 {
		t.Error("too few of a kind:", many)
	}
}

// nudge changes some number of a scheduler a little.
func nudge(i *api.Inst, roll func(n int) int) {
	by := roll(2)*2 - 1
	switch what := roll(12); {
	case what == 0:
		i.Until += int64(by)
	case what == 1:
		i.Now += int64(by * (1 + roll(5)))
	case what == 2:
		i.Lease = append(i.Lease, 6+roll(3))
	case what == 3:
		i.Health[roll(len(i.Health))] += by
	case what == 4:
		i.Policy += by
	case what == 5:
		i.Depth += by * 64
	case what == 6:
		i.Health = i.Health[roll(2):]
	case what < 9 && len(i.Jobs) > 0:
		j := &i.Jobs[roll(len(i.Jobs))]
		[]func(){
			func() { j.ID += by }, func() { j.State = roll(7) }, func() { j.Came += int64(by) }, func() { j.From += int64(by) }, func() { j.To += int64(by) }, func() { j.Spec.Long += int64(by) },
			func() { i.Jobs = slices.DeleteFunc(i.Jobs, func(o api.Job) bool { return o.ID == j.ID }) },
		}[roll(7)]()
	case len(i.Table) > 0:
		h := &i.Table[roll(len(i.Table))]
		[]func(){
			func() { h.ID += by }, func() { h.From += int64(by) }, func() { h.To += int64(by) }, func() { h.Things[roll(len(h.Things))] += by }, func() { h.Things = []int{7 + roll(2)} },
			func() { i.Table = i.Table[1:] }, func() { h.Things = append(h.Things, 8) },
		}[roll(7)]()
	}
}

// P16.1: a new one has no jobs, and all its things, that are Fine; its time is 0, and all is had until Never.
func TestNew(t *testing.T) {
	for _, g := range [][]api.Thing{site(), farm(), site()[:1], site()[:4]} {
		for policy := 1; policy <= 3; policy++ {
			for _, depth := range []int{0, 1, 63, 64} {
				want := api.Inst{Graph: g, Health: make([]int, len(g)), Lease: span(0, len(g)-1), Until: api.Never, Policy: policy, Depth: depth}
				if i, e := inst.New(g, policy, depth); e != api.OK || !equal(i, want) || !inst.Right(i) || !slices.Equal(inst.Free(i), want.Lease) {
					t.Errorf("New(%v, %d, %d) = %+v, %v", g, policy, depth, i, e)
				}
			}
		}
	}
}

// P16.1: of what is no graph, and with a policy or a depth that may not be, there is none.
func TestNewWrong(t *testing.T) {
	loose, tagged, large := site(), site(), append(farm(), api.Thing{Kind: api.Node})
	loose[3].Up = 3
	tagged[4].Tag = "a"
	for _, c := range []struct {
		g             []api.Thing
		policy, depth int
	}{
		{nil, 1, 0}, {site()[1:], 1, 0}, {loose, 2, 0}, {tagged, 3, 0}, {large, 1, 0},
		{site(), 0, 0}, {site(), 4, 0}, {site(), -1, 0}, {site(), math.MaxInt, 0}, {site(), math.MinInt, 0},
		{site(), 1, -1}, {site(), 2, 65}, {site(), 3, 65}, {site(), 3, math.MaxInt}, {site(), 1, math.MinInt}, {nil, 0, -1},
	} {
		if i, e := inst.New(c.g, c.policy, c.depth); e != api.ErrArg || !equal(i, api.Inst{}) {
			t.Errorf("New(%v, %d, %d) = %+v, %v", c.g, c.policy, c.depth, i, e)
		}
	}
}

// P16.1: a copy is the same, also of one that isn't right, and doesn't look round.
func TestCopy(t *testing.T) {
	for _, i := range append(wrong(t), busy(t), strewn(farm(), dice(3)), api.Inst{Now: -7, Until: -8, Policy: -9, Depth: -10}) {
		if got := inst.Copy(i); !equal(got, i) {
			t.Errorf("%+v, not %+v", got, i)
		}
	}
	strewns(func(i api.Inst, _ api.Op) {
		if got := inst.Copy(i); !equal(got, i) {
			t.Fatalf("%+v, not %+v", got, i)
		}
	})
}
