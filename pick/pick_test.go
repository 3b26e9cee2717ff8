package pick_test

import (
	"math"
	"slices"
	"testing"

	"bailiwick/api"
	"bailiwick/held"
	"bailiwick/pick"
)

// pickOf is the layer's answer to an ask.
func pickOf(a ask, list []api.Want) ([]api.Held, []api.Held, api.Errno) {
	return pick.Pick(a.g, a.use, a.l, list, a.now, a.until, a.policy, a.depth)
}

// wantPick tells where Pick answers otherwise than the document's words.
func wantPick(t *testing.T, a ask, list []api.Want) {
	t.Helper()
	begin, kept, e := a.pick(list)
	got, more, told := pickOf(a, list)
	if told != e || !equal(got, begin) || !equal(more, kept) {
		t.Fatalf("Pick of %+v, of %+v: %v, %v, %v, not %v, %v, %v", a, list, got, more, told, begin, kept, e)
	}
}

// pair is a node of two cores, of which one is held from 0 to 5.
func pair() ([]api.Thing, []int, []api.Held) {
	return site()[:4], span(0, 3), []api.Held{hold(1, 0, 5, 2)}
}

// cores is one who would begin with so many cores of a node for so long.
func cores(id, many int, long int64) api.Want {
	return api.Want{ID: id, Spec: api.Spec{Nodes: 1, Cores: many, Long: long}}
}

// P14.1: the document's example.
func TestPickExample(t *testing.T) {
	g, use, l := pair()
	list := []api.Want{cores(2, 2, 3), cores(3, 1, 4), cores(4, 1, 9)}
	two := hold(2, 5, 8, 2, 3)
	for _, now := range []int64{0, 1} {
		three := hold(3, now, now+4, 3)
		for _, c := range []struct {
			policy, depth int
			begin, kept   []api.Held
		}{
			{api.Fcfs, 64, nil, nil}, {api.Easy, 0, []api.Held{three}, []api.Held{two}}, {api.Easy, 64, []api.Held{three}, []api.Held{two}},
			{api.Conser, 1, []api.Held{three}, []api.Held{two}}, {api.Conser, 2, []api.Held{three}, []api.Held{two, hold(4, 8, 17, 2)}},
		} {
			if begin, kept, e := pick.Pick(g, use, l, list, now, api.Never, c.policy, c.depth); e != api.OK || !equal(begin, c.begin) || !equal(kept, c.kept) {
				t.Errorf("policy %d, depth %d, at %d: %v, %v, %v", c.policy, c.depth, now, begin, kept, e)
			}
		}
	}
}

// P14.1: who begins and who is kept, in the order of the list. Told by hand.
func TestPick(t *testing.T) {
	g, use, l := pair()
	a, b, c, d, never := cores(9, 2, 3), cores(7, 1, 9), cores(8, 1, 4), cores(3, 2, 2), cores(2, 3, 1)
	for i, x := range []struct {
		list        []api.Want
		until       int64
		policy      int
		depth       int
		begin, kept []api.Held
	}{
		{nil, 99, 1, 0, nil, nil}, {nil, 99, 2, 0, nil, nil}, {nil, 99, 3, 64, nil, nil}, {[]api.Want{never, never}, 99, 1, 64, nil, nil},
		// Fcfs: nobody begins behind the first one who has a later slot; who has none stops nobody.
		{[]api.Want{b, a, c}, 99, 1, 9, []api.Held{hold(7, 1, 10, 3)}, nil}, {[]api.Want{a, b, c}, 99, 1, 9, nil, nil}, {[]api.Want{c, b, d}, 99, 1, 0, []api.Held{hold(8, 1, 5, 3)}, nil},
		{[]api.Want{never, c, never, a, never}, 99, 1, 0, []api.Held{hold(8, 1, 5, 3)}, nil}, {[]api.Want{a, c}, 7, 1, 0, []api.Held{hold(8, 1, 5, 3)}, nil}, {[]api.Want{a, c}, 8, 1, 0, nil, nil},
		// Easy: one is kept, whatever the depth is; the others stop nobody, and hold nothing.
		{[]api.Want{a, b, c, d}, 99, 2, 0, []api.Held{hold(8, 1, 5, 3)}, []api.Held{hold(9, 5, 8, 2, 3)}}, {[]api.Want{c, a, b}, 99, 2, 64, []api.Held{hold(8, 1, 5, 3)}, []api.Held{hold(9, 5, 8, 2, 3)}},
		{[]api.Want{d, a, b, c}, 99, 2, 5, []api.Held{hold(8, 1, 5, 3)}, []api.Held{hold(3, 5, 7, 2, 3)}}, {[]api.Want{b, a}, 99, 2, 0, []api.Held{hold(7, 1, 10, 3)}, []api.Held{hold(9, 10, 13, 2, 3)}},
		{[]api.Want{never, a, c}, 99, 2, 0, []api.Held{hold(8, 1, 5, 3)}, []api.Held{hold(9, 5, 8, 2, 3)}}, {[]api.Want{a, b}, 7, 2, 0, nil, nil}, {[]api.Want{a, b}, 10, 2, 0, nil, []api.Held{hold(9, 5, 8, 2, 3)}},
		// Conser: as many as the depth are kept; further ones stop nobody, and hold nothing.
		{[]api.Want{a, b, c, d}, 99, 3, 0, []api.Held{hold(7, 1, 10, 3)}, nil}, {[]api.Want{a, b, c, d}, 99, 3, 1, []api.Held{hold(8, 1, 5, 3)}, []api.Held{hold(9, 5, 8, 2, 3)}},
		{[]api.Want{a, b, c, d}, 99, 3, 2, []api.Held{hold(8, 1, 5, 3)}, []api.Held{hold(9, 5, 8, 2, 3), hold(7, 8, 17, 2)}},
		{[]api.Want{a, b, c, d}, 99, 3, 3, []api.Held{hold(8, 1, 5, 3)}, []api.Held{hold(9, 5, 8, 2, 3), hold(7, 8, 17, 2), hold(3, 17, 19, 2, 3)}},
		{[]api.Want{d, never, a, never, c}, 99, 3, 2, []api.Held{hold(8, 1, 5, 3)}, []api.Held{hold(3, 5, 7, 2, 3), hold(9, 7, 10, 2, 3)}}, {[]api.Want{d, a, b}, 9, 3, 64, nil, []api.Held{hold(3, 5, 7, 2, 3)}},
	} {
		if begin, kept, e := pick.Pick(g, use, l, x.list, 1, x.until, x.policy, x.depth); e != api.OK || !equal(begin, x.begin) || !equal(kept, x.kept) {
			t.Errorf("%d: Pick(%+v, %d, %d, %d) = %v, %v, %v", i, x.list, x.until, x.policy, x.depth, begin, kept, e)
		}
	}
}

// P14.1: several begin at once, in the order of the list, each of what those ahead of it leave; numbers may be any.
func TestSeveralBegin(t *testing.T) {
	list := []api.Want{cores(math.MaxInt, 1, 2), cores(0, 1, 9), {ID: -5, Spec: api.Spec{Nodes: 1, Gpus: 1, Long: 1}}, cores(math.MinInt, 1, 3), cores(4, 1, 1)}
	want := []api.Held{hold(math.MaxInt, 3, 5, 2), hold(0, 3, 12, 3), hold(-5, 3, 4, 6), hold(math.MinInt, 3, 6, 5)}
	for policy, late := range [][]api.Held{{}, {hold(4, 5, 6, 2)}, {hold(4, 5, 6, 2)}} {
		if begin, kept, e := pick.Pick(site(), span(0, 6), nil, list, 3, 99, policy+1, 1); e != api.OK || !equal(begin, want) || !equal(kept, late) {
			t.Errorf("policy %d: %v, %v, %v", policy+1, begin, kept, e)
		}
	}
}

// P14.1: what is got is got till Never at the latest; and nobody begins then, or at what is no time, where only the ends of holdings count.
func TestPickAtTheEnds(t *testing.T) {
	g, use, l := pair()
	list := []api.Want{cores(6, 1, 4), cores(4, 2, 4)}
	for _, c := range []struct {
		now, until  int64
		begin, kept []api.Held
	}{
		{api.Never - 2, api.Never, []api.Held{hold(6, api.Never-2, api.Never, 2)}, nil}, {api.Never - 2, math.MaxInt64, []api.Held{hold(6, api.Never-2, api.Never, 2)}, nil}, {api.Never - 2, api.Never - 1, nil, nil},
		{api.Never, math.MaxInt64, nil, nil}, {api.Never + 1, math.MaxInt64, nil, nil}, {math.MaxInt64, math.MaxInt64, nil, nil},
		{-1, 99, nil, []api.Held{hold(6, 5, 9, 2), hold(4, 9, 13, 2, 3)}}, {math.MinInt64, 99, nil, []api.Held{hold(6, 5, 9, 2), hold(4, 9, 13, 2, 3)}}, {-1, 9, nil, []api.Held{hold(6, 5, 9, 2)}},
		{0, 0, nil, nil}, {0, -1, nil, nil}, {0, math.MinInt64, nil, nil}, {0, 4, []api.Held{hold(6, 0, 4, 3)}, nil}, {0, 3, nil, nil},
	} {
		if begin, kept, e := pick.Pick(g, use, l, list, c.now, c.until, api.Conser, 64); e != api.OK || !equal(begin, c.begin) || !equal(kept, c.kept) {
			t.Errorf("at %d, until %d: %v, %v, %v", c.now, c.until, begin, kept, e)
		}
		if begin, kept, e := pick.Pick(g, use, l, list, c.now, c.until, api.Fcfs, 0); e != api.OK || !equal(begin, c.begin) || len(kept) > 0 {
			t.Errorf("Fcfs at %d, until %d: %v, %v, %v", c.now, c.until, begin, kept, e)
		}
	}
}

// P14.1: as many are kept as the depth says, up to 64; Easy keeps one, Fcfs none.
func TestDepth(t *testing.T) {
	g, use, l := pair()
	var list []api.Want
	var all []api.Held
	for k := range 70 {
		list = append(list, cores(500-k, 2, 3))
		all = append(all, hold(500-k, 5+3*int64(k), 8+3*int64(k), 2, 3))
	}
	list = append(list, cores(77, 1, 4))
	for depth := range 65 {
		for policy, keeps := range []int{0, 1, depth} {
			want := []api.Held{hold(77, 1, 5, 3)}
			if policy == 0 {
				want = nil
			}
			if begin, kept, e := pick.Pick(g, use, l, list, 1, api.Never, policy+1, depth); e != api.OK || !equal(begin, want) || !equal(kept, all[:keeps]) {
				t.Errorf("policy %d, depth %d: %v, %v, %v", policy+1, depth, begin, kept, e)
			}
		}
	}
}

// P14.1: nothing and ErrArg, where the policy is none of the three, or the depth isn't from 0 to 64, with each other argument right, and ahead of held.Add's errors.
func TestWrongPolicy(t *testing.T) {
	g, use, l := pair()
	for _, list := range [][]api.Want{nil, {cores(2, 1, 3)}, {cores(2, 1, 3), cores(2, 2, 3)}, {cores(1, 1, 3)}} {
		for _, n := range []int{math.MinInt, -1, 0, 4, 5, math.MaxInt} {
			for _, depth := range []int{0, 1, 64} {
				if begin, kept, e := pick.Pick(g, use, l, list, 1, 99, n, depth); e != api.ErrArg || len(begin)+len(kept) > 0 {
					t.Errorf("policy %d: %v, %v, %v", n, begin, kept, e)
				}
			}
		}
		for _, depth := range []int{math.MinInt, -64, -1, 65, 66, 1 << 32, math.MaxInt} {
			for policy := 1; policy <= 3; policy++ {
				if begin, kept, e := pick.Pick(g, use, l, list, 1, 99, policy, depth); e != api.ErrArg || len(begin)+len(kept) > 0 {
					t.Errorf("policy %d, depth %d: %v, %v, %v", policy, depth, begin, kept, e)
				}
			}
		}
	}
}

// P14.1: the same, where the table isn't right, whoever would begin, and if nobody would, by whatever policy.
func TestWrongTable(t *testing.T) {
	for _, l := range noTables() {
		for _, list := range [][]api.Want{nil, {cores(1, 1, 3)}, {cores(1, 1, 3), cores(1, 1, 3)}, {cores(2, 9, 3)}, {{ID: 1}}} {
			for policy := range 5 {
				for _, now := range []int64{-1, 0, 5, api.Never} {
					if begin, kept, e := pick.Pick(site(), span(0, 6), l, list, now, 99, policy, 2); e != api.ErrArg || len(begin)+len(kept) > 0 {
						t.Errorf("of %v: %v, %v, %v", l, begin, kept, e)
					}
				}
			}
		}
	}
}

// P14.1: nothing and ErrTwice, where the number of one who begins or is kept is there, or that of one ahead who does; of others it doesn't matter.
func TestTwice(t *testing.T) {
	g, use, l := pair()
	never := cores(1, 3, 1)
	for i, c := range []struct {
		list []api.Want
		e    [3]api.Errno // by Fcfs, Easy, and Conser with a depth of 2
	}{
		{[]api.Want{cores(1, 1, 4)}, [3]api.Errno{api.ErrTwice, api.ErrTwice, api.ErrTwice}}, {[]api.Want{cores(2, 1, 4), cores(3, 3, 1), cores(1, 2, 1)}, [3]api.Errno{api.OK, api.ErrTwice, api.ErrTwice}},
		{[]api.Want{cores(1, 2, 4)}, [3]api.Errno{api.OK, api.ErrTwice, api.ErrTwice}}, {[]api.Want{cores(2, 2, 4), cores(1, 2, 4)}, [3]api.Errno{api.OK, api.OK, api.ErrTwice}},
		{[]api.Want{cores(2, 2, 4), cores(3, 2, 4), cores(1, 2, 4)}, [3]api.Errno{}}, {[]api.Want{cores(2, 2, 4), cores(3, 2, 4), cores(1, 1, 4)}, [3]api.Errno{api.OK, api.ErrTwice, api.ErrTwice}},
		{[]api.Want{cores(2, 2, 4), cores(2, 1, 4)}, [3]api.Errno{api.OK, api.ErrTwice, api.ErrTwice}}, {[]api.Want{cores(2, 1, 4), cores(2, 2, 4)}, [3]api.Errno{api.OK, api.ErrTwice, api.ErrTwice}},
		{[]api.Want{cores(2, 2, 4), cores(2, 2, 4)}, [3]api.Errno{api.OK, api.OK, api.ErrTwice}}, {[]api.Want{never, cores(2, 1, 4), never, {ID: 1}}, [3]api.Errno{}},
		{[]api.Want{cores(2, 1, 2), cores(5, 1, 2), cores(1, 1, 2)}, [3]api.Errno{api.OK, api.OK, api.ErrTwice}},
	} {
		for k, want := range c.e {
			if begin, kept, e := pick.Pick(g, use, l, c.list, 1, 99, k+1, 2); e != want || e != api.OK && len(begin)+len(kept) > 0 {
				t.Errorf("%d: policy %d: %v, %v, %v", i, k+1, begin, kept, e)
			}
		}
	}
}

// P14.1: the 256th has room, and the 257th who begins or is kept has none; the first error in the order of the list is told, ErrTwice ahead of ErrFull of one.
func TestFull(t *testing.T) {
	one, late, never := cores(77, 1, 3), api.Want{ID: 79, Spec: api.Spec{Nodes: 2, Cores: 1, Long: 4}}, cores(81, 3, 1)
	again, there := cores(77, 1, 3), cores(2, 1, 3)
	for i, c := range []struct {
		many int
		list []api.Want
		e    [3]api.Errno // by Fcfs, Easy, and Conser with a depth of 1
	}{
		{256, nil, [3]api.Errno{}}, {256, []api.Want{never}, [3]api.Errno{}}, {256, []api.Want{one}, [3]api.Errno{api.ErrFull, api.ErrFull, api.ErrFull}}, {256, []api.Want{late}, [3]api.Errno{api.OK, api.ErrFull, api.ErrFull}},
		{255, []api.Want{one, never}, [3]api.Errno{}}, {255, []api.Want{late}, [3]api.Errno{}}, {255, []api.Want{late, late}, [3]api.Errno{}}, {254, []api.Want{late, one}, [3]api.Errno{}}, {254, []api.Want{one, late}, [3]api.Errno{}},
		{255, []api.Want{one, late}, [3]api.Errno{api.OK, api.ErrFull, api.ErrFull}}, {255, []api.Want{late, one}, [3]api.Errno{api.OK, api.ErrFull, api.ErrFull}}, {255, []api.Want{one, cores(83, 1, 3)}, [3]api.Errno{api.ErrFull, api.ErrFull, api.ErrFull}},
		{256, []api.Want{there}, [3]api.Errno{api.ErrTwice, api.ErrTwice, api.ErrTwice}}, {256, []api.Want{there, one}, [3]api.Errno{api.ErrTwice, api.ErrTwice, api.ErrTwice}}, {256, []api.Want{one, there}, [3]api.Errno{api.ErrFull, api.ErrFull, api.ErrFull}},
		{255, []api.Want{one, again}, [3]api.Errno{api.ErrTwice, api.ErrTwice, api.ErrTwice}}, {256, []api.Want{late, there}, [3]api.Errno{api.OK, api.ErrFull, api.ErrFull}},
	} {
		for k, want := range c.e {
			if begin, kept, e := pick.Pick(site(), span(0, 6), row(c.many), c.list, 2, api.Never, k+1, 1); e != want || e != api.OK && len(begin)+len(kept) > 0 {
				t.Errorf("%d: policy %d: %v, %v, %v", i, k+1, begin, kept, e)
			}
		}
	}
}

// P14.1: who asks for what may not be, and each with what is no graph, or of what is no set, has no slot, and is passed by.
func TestPassesBy(t *testing.T) {
	_, _, l := pair()
	list := []api.Want{cores(4, 2, 3), cores(7, 1, 3)}
	for policy := 1; policy <= 3; policy++ {
		for _, g := range noGraphs() {
			if begin, kept, e := pick.Pick(g, span(0, 6), l, list, 1, 99, policy, 9); e != api.OK || len(begin)+len(kept) > 0 {
				t.Errorf("with %v: %v, %v, %v", g, begin, kept, e)
			}
		}
		for _, use := range append(noSets(), nil, []int{2, 3, 5}) {
			if begin, kept, e := pick.Pick(site(), use, l, list, 1, 99, policy, 9); e != api.OK || len(begin)+len(kept) > 0 {
				t.Errorf("of %v: %v, %v, %v", use, begin, kept, e)
			}
		}
		for _, s := range noSpecs() {
			list := []api.Want{{ID: 3, Spec: s}, cores(5, 1, 3), {ID: 1, Spec: s}, {ID: 5, Spec: s}}
			if begin, kept, e := pick.Pick(site(), span(0, 6), l, list, 1, 99, policy, 9); e != api.OK || !equal(begin, []api.Held{hold(5, 1, 4, 3)}) || len(kept) > 0 {
				t.Errorf("%+v: %v, %v, %v", list, begin, kept, e)
			}
		}
	}
}

// P14.1: of some tables all short lists, with all policies.
func TestPickOfEvery(t *testing.T) {
	every(func(a ask, list []api.Want) { wantPick(t, a, list) })
}

// P14.1: of all small tables, with what may be used, times, and depths of all kinds.
func TestPickOfSmall(t *testing.T) {
	errs := map[api.Errno]int{}
	small(func(a ask, list []api.Want) {
		wantPick(t, a, list)
		_, _, e := pickOf(a, list)
		errs[e]++
	})
	if errs[api.OK] < 1000 || errs[api.ErrTwice] < 50 {
		t.Error("too few of a kind:", errs)
	}
}

// P14.1: of great ones.
func TestPickOfGreat(t *testing.T) {
	errs := map[api.Errno]int{}
	great(func(a ask, list []api.Want) {
		wantPick(t, a, list)
		begin, kept, e := pickOf(a, list)
		errs[e]++
		if e == api.OK && !held.Right(with(a.l, begin, kept)) {
			t.Fatalf("of %+v, of %+v: %v, %v don't go with the table", a, list, begin, kept)
		}
	})
	if errs[api.OK] < 40 || errs[api.ErrTwice] < 3 || errs[api.ErrFull] < 3 {
		t.Error("too few of a kind:", errs)
	}
}

// P14.1: of a list only its order counts, not the numbers.
func TestNumbersDontCount(t *testing.T) {
	every(func(a ask, list []api.Want) {
		begin, kept, _ := pickOf(a, list)
		other := slices.Clone(list)
		for k := range other {
			other[k].ID = 1000 - list[k].ID
		}
		again, more, e := pickOf(a, other)
		for _, l := range [][]api.Held{again, more} {
			for k := range l {
				l[k].ID = 1000 - l[k].ID
			}
		}
		if e != api.OK || !equal(again, begin) || !equal(more, kept) {
			t.Fatalf("of %+v, of %+v: %v, %v, and with other numbers %v, %v", a, list, begin, kept, again, more)
		}
	})
}
