package slot_test

import (
	"math"
	"slices"
	"testing"

	"bailiwick/api"
	"bailiwick/held"
	"bailiwick/set"
	"bailiwick/slot"
)

// wants are those who would begin with these specs, with numbers that aren't those of lists' tables and don't rise.
func wants(specs ...api.Spec) []api.Want {
	var list []api.Want
	for k, s := range specs {
		list = append(list, api.Want{ID: 5 + k*7%16*10, Spec: s})
	}
	return list
}

// wantPlan tells where Plan answers otherwise than the document's words, or against P13.3.
func wantPlan(t *testing.T, a ask, list []api.Want, from int64) {
	t.Helper()
	want, e := a.plan(list, from)
	got, told := slot.Plan(a.g, a.use, a.l, list, from, a.until)
	if told != e || !equal(got, want) {
		t.Fatalf("Plan of %+v, of %+v from %d on: %v, %v, not %v, %v", a, list, from, got, told, want, e)
	}
	if !held.Right(got) || !apart(got) {
		t.Fatalf("Plan of %+v, of %+v from %d on: %v isn't right", a, list, from, got)
	}
	for _, h := range got {
		if slices.ContainsFunc(a.l, func(o api.Held) bool { return o.ID == h.ID }) {
			continue
		}
		if !set.Part(h.Things, a.use) || h.To > a.until || h.From < from || h.From < 0 {
			t.Fatalf("Plan of %+v, of %+v from %d on: planned is %v", a, list, from, h)
		}
	}
}

// P13.2: each has its first slot in the table with those ahead of it, in order, for Long; who has none is passed by. Told by hand.
func TestPlan(t *testing.T) {
	l := []api.Held{hold(1, 0, 5, 2), hold(6, 4, 8, 5)}
	one, two, both := api.Spec{Nodes: 1, Cores: 1, Long: 3}, api.Spec{Nodes: 1, Cores: 2, Long: 3}, api.Spec{Nodes: 2, Cores: 1, Long: 4}
	never, long := api.Spec{Nodes: 1, Cores: 3, Long: 1}, api.Spec{Nodes: 1, Cores: 1, Long: 20}
	for i, c := range []struct {
		list        []api.Want
		from, until int64
		more        []api.Held
	}{
		{nil, 0, 99, nil}, {nil, -1, -1, nil}, {[]api.Want{{ID: 9, Spec: never}}, 0, 99, nil}, {[]api.Want{{ID: 9}}, 0, 99, nil},
		{[]api.Want{{ID: 9, Spec: two}, {ID: 7, Spec: two}}, 0, 99, []api.Held{hold(7, 8, 11, 2, 3), hold(9, 5, 8, 2, 3)}},
		{[]api.Want{{ID: 9, Spec: one}, {ID: 7, Spec: two}}, 0, 99, []api.Held{hold(7, 5, 8, 2, 3), hold(9, 0, 3, 3)}},
		{[]api.Want{{ID: 9, Spec: one}, {ID: 7, Spec: two}}, 3, 99, []api.Held{hold(7, 6, 9, 2, 3), hold(9, 3, 6, 3)}},
		{[]api.Want{{ID: 7, Spec: two}, {ID: 9, Spec: one}}, 3, 99, []api.Held{hold(7, 5, 8, 2, 3), hold(9, 8, 11, 2)}},
		{[]api.Want{{ID: 7, Spec: two}, {ID: 9, Spec: one}}, 3, 10, []api.Held{hold(7, 5, 8, 2, 3)}},
		{[]api.Want{{ID: 7, Spec: never}, {ID: 8, Spec: both}, {ID: 9, Spec: one}}, 1, 99, []api.Held{hold(8, 8, 12, 2, 5), hold(9, 1, 4, 3)}},
		{[]api.Want{{ID: 7, Spec: long}, {ID: 8, Spec: both}, {ID: 9, Spec: one}}, 1, 19, []api.Held{hold(8, 8, 12, 2, 5), hold(9, 1, 4, 3)}},
		{[]api.Want{{ID: 0, Spec: one}, {ID: -4, Spec: one}, {ID: math.MinInt, Spec: one}, {ID: math.MaxInt, Spec: one}}, 0, 99, []api.Held{hold(math.MinInt, 3, 6, 3), hold(-4, 0, 3, 5), hold(0, 0, 3, 3), hold(math.MaxInt, 5, 8, 2)}},
		{[]api.Want{{ID: 2, Spec: one}, {ID: 3, Spec: both}}, -1, 99, []api.Held{hold(2, 5, 8, 2), hold(3, 8, 12, 2, 5)}},
		{[]api.Want{{ID: 2, Spec: one}, {ID: 3, Spec: one}}, api.Never - 2, math.MaxInt64, []api.Held{hold(2, api.Never-2, api.Never, 2), hold(3, api.Never-2, api.Never, 3)}},
		{[]api.Want{{ID: 2, Spec: one}}, api.Never, math.MaxInt64, nil}, {[]api.Want{{ID: 2, Spec: one}}, math.MaxInt64, math.MaxInt64, nil}, {[]api.Want{{ID: 2, Spec: one}}, 0, 2, nil},
		{[]api.Want{{ID: 1, Spec: never}, {ID: 2, Spec: one}, {ID: 2, Spec: never}, {ID: 6}}, 0, 99, []api.Held{hold(2, 0, 3, 3)}},
	} {
		want := append(deep(l), c.more...)
		slices.SortFunc(want, func(a, b api.Held) int {
			if a.ID < b.ID {
				return -1
			}
			return 1
		})
		if got, e := slot.Plan(site(), span(0, 6), l, c.list, c.from, c.until); e != api.OK || !equal(got, want) {
			t.Errorf("%d: Plan(%+v, %d, %d) = %v, %v", i, c.list, c.from, c.until, got, e)
		}
	}
}

// P13.2: the table as it is and ErrTwice, where one's number is there, or is an earlier one's who got a slot; whoever comes ahead of it.
func TestPlanTwice(t *testing.T) {
	l := []api.Held{hold(1, 0, 5, 2), hold(6, 4, 8, 5)}
	one, never := api.Spec{Nodes: 1, Cores: 1, Long: 3}, api.Spec{Nodes: 1, Cores: 3, Long: 3}
	for _, list := range [][]api.Want{
		{{ID: 1, Spec: one}}, {{ID: 6, Spec: one}}, {{ID: 6, Spec: one}, {ID: 2, Spec: one}}, {{ID: 2, Spec: one}, {ID: 2, Spec: one}}, {{ID: 2, Spec: one}, {ID: 1, Spec: one}},
		{{ID: 3, Spec: one}, {ID: 4, Spec: one}, {ID: 5, Spec: never}, {ID: 3, Spec: one}, {ID: 9, Spec: one}}, {{ID: 9, Spec: never}, {ID: 7, Spec: one}, {ID: 6, Spec: one}},
	} {
		if got, e := slot.Plan(site(), span(0, 6), l, list, 0, 99); e != api.ErrTwice || !equal(got, l) {
			t.Errorf("Plan(%+v) = %v, %v", list, got, e)
		}
	}
}

// P13.2: the 256th has room; the 257th hasn't, which is told where it has a slot; that its number is there is told first.
func TestPlanFull(t *testing.T) {
	one, never := api.Spec{Nodes: 1, Cores: 1, Long: 3}, api.Spec{Nodes: 1, Cores: 3, Long: 3}
	for _, c := range []struct {
		many int
		list []api.Want
		e    api.Errno
		more int
	}{
		{255, []api.Want{{ID: 77, Spec: one}}, api.OK, 1}, {254, []api.Want{{ID: 77, Spec: one}, {ID: -1, Spec: one}}, api.OK, 2}, {256, nil, api.OK, 0}, {256, []api.Want{{ID: 77, Spec: never}, {ID: 2, Spec: never}}, api.OK, 0},
		{256, []api.Want{{ID: 77, Spec: one}}, api.ErrFull, 0}, {255, []api.Want{{ID: 77, Spec: one}, {ID: 79, Spec: one}}, api.ErrFull, 0}, {256, []api.Want{{ID: -1, Spec: one}}, api.ErrFull, 0}, {256, []api.Want{{ID: 77, Spec: one}, {ID: 2, Spec: one}}, api.ErrFull, 0},
		{256, []api.Want{{ID: 2, Spec: one}}, api.ErrTwice, 0}, {256, []api.Want{{ID: 2, Spec: one}, {ID: 77, Spec: one}}, api.ErrTwice, 0}, {255, []api.Want{{ID: 77, Spec: one}, {ID: 77, Spec: one}}, api.ErrTwice, 0},
		{255, []api.Want{{ID: 77, Spec: one}, {ID: 79, Spec: never}}, api.OK, 1},
	} {
		l := row(c.many)
		got, e := slot.Plan(site(), span(0, 6), l, c.list, 0, api.Never)
		if e != c.e || len(got) != c.many+c.more || !held.Right(got) || c.more == 0 && !equal(got, l) {
			t.Errorf("Plan of %d, %+v: %d, %v", c.many, c.list, len(got), e)
		}
	}
}

// P13.2: the list as it is and ErrArg, where it is no table, whoever would begin, and if nobody would.
func TestPlanWrongTable(t *testing.T) {
	one := api.Spec{Nodes: 1, Cores: 1, Long: 3}
	for _, l := range noTables() {
		for _, list := range [][]api.Want{nil, {{ID: 1, Spec: one}}, {{ID: 2, Spec: one}}, {{ID: 1, Spec: one}, {ID: 1, Spec: one}}, {{ID: 1}}} {
			for _, from := range []int64{-1, 0, 5, api.Never} {
				if got, e := slot.Plan(site(), span(0, 6), l, list, from, 99); e != api.ErrArg || !equal(got, l) {
					t.Errorf("Plan(%v, %v) = %v, %v", l, list, got, e)
				}
			}
		}
	}
}

// P13.2: who asks for what may not be, and each with what is no graph, or of what is no set, is passed by.
func TestPlanPassesBy(t *testing.T) {
	l, one := []api.Held{hold(1, 0, 5, 3)}, api.Spec{Nodes: 1, Cores: 1, Long: 3}
	for _, g := range noGraphs() {
		if got, e := slot.Plan(g, span(0, 6), l, wants(one, one), 0, 99); e != api.OK || !equal(got, l) {
			t.Errorf("Plan with %v = %v, %v", g, got, e)
		}
	}
	for _, use := range noSets() {
		if got, e := slot.Plan(site(), use, l, wants(one, one), 0, 99); e != api.OK || !equal(got, l) {
			t.Errorf("Plan of %v = %v, %v", use, got, e)
		}
	}
	want := append(deep(l), hold(5, 0, 3, 2))
	for _, s := range noSpecs() {
		list := []api.Want{{ID: 3, Spec: s}, {ID: 5, Spec: one}, {ID: 1, Spec: s}, {ID: 5, Spec: s}}
		if got, e := slot.Plan(site(), span(0, 6), l, list, 0, 99); e != api.OK || !equal(got, want) {
			t.Errorf("Plan(%+v) = %v, %v", list, got, e)
		}
	}
}

// P13.2, P13.3: of small tables, some who would begin, from some times on.
func TestPlanByModel(t *testing.T) {
	k := 0
	small(func(a ask) {
		k++
		specs := siteSpecs()
		list := wants(a.s, specs[k%5], specs[k/5%len(specs)], a.s, specs[k/60%len(specs)])
		if k%7 == 0 {
			list[k/7%5].ID = k / 35 % 5 * 5 // it may be there, or another one's
		}
		wantPlan(t, a, list, []int64{0, 1, 3, 4, 6, -1, api.Never - 2, math.MinInt64, api.Never}[k%9])
	})
}

// P13.2, P13.3: of great ones, many who would begin; some have numbers that are there.
func TestPlanOfGreat(t *testing.T) {
	great(func(a ask, roll func(n int) int) {
		var list []api.Want
		for k := range roll(20) {
			list = append(list, api.Want{ID: 1000 - 2*k + roll(3), Spec: anySpec(roll)})
		}
		wantPlan(t, a, list, int64(roll(40)-5))
	})
}

// P13.2, P13.3: one behind the other, each at First in the table so far, whose holding is added; as if each were planned alone.
func TestPlanOneByOne(t *testing.T) {
	great(func(a ask, roll func(n int) int) {
		if len(a.l) > 90 {
			return
		}
		list := wants(anySpec(roll), anySpec(roll), anySpec(roll), anySpec(roll), anySpec(roll), anySpec(roll))
		for k := range list {
			list[k].ID += 1000
		}
		all, e := slot.Plan(a.g, a.use, a.l, list, 2, a.until)
		l := a.l
		for _, w := range list {
			first, things, ok := slot.First(a.g, a.use, l, w.Spec, 2, a.until)
			l, _ = slot.Plan(a.g, a.use, l, []api.Want{w}, 2, a.until)
			h, there := held.Get(l, w.ID)
			if there != ok || ok && !equal([]api.Held{h}, []api.Held{hold(w.ID, first, first+w.Spec.Long, things...)}) {
				t.Fatalf("of %+v: %+v has %d, %v, and holds %v", a, w, first, things, h)
			}
		}
		if e != api.OK || !equal(all, l) {
			t.Fatalf("of %+v: Plan(%+v) = %v, %v, and one by one %v", a, list, all, e, l)
		}
	})
}
