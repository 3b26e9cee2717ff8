package pick_test

import (
	"math"
	"testing"

	"bailiwick/api"
	"bailiwick/pick"
)

// later says whether a spec is made later by a table, as the document tells it.
func (a ask) later(before, after []api.Held, s api.Spec) bool {
	was, _, here := a.first(before, s)
	is, _, there := a.first(after, s)
	return here && there && is > was || here && !there
}

// P14.2: told by hand.
func TestLater(t *testing.T) {
	g, use, five := pair()
	six, four, never, both := []api.Held{hold(1, 0, 6, 3)}, []api.Held{hold(1, 0, 4, 2), hold(2, 8, 9, 3)}, []api.Held{hold(7, 0, api.Never, 2)}, []api.Held{hold(1, 0, 5, 2, 3)}
	two, one, none := cores(0, 2, 3).Spec, cores(0, 1, 3).Spec, cores(0, 3, 3).Spec
	for i, c := range []struct {
		before, after []api.Held
		s             api.Spec
		now, until    int64
		want          bool
	}{
		{nil, five, two, 1, 99, true}, {five, six, two, 1, 99, true}, {four, five, two, 1, 99, true}, {nil, four, two, 3, 99, true}, {nil, never, two, 1, 99, true}, {five, never, two, 1, 99, true},
		{five, six, two, 1, 9, true}, {five, six, two, 1, 8, true}, {five, six, two, 1, 7, false}, {nil, five, two, 1, 4, true}, {nil, five, two, 1, 3, false},
		{five, nil, two, 1, 99, false}, {six, five, two, 1, 99, false}, {never, nil, two, 1, 99, false}, {never, five, two, 1, 99, false}, {never, never, two, 1, 99, false}, {five, five, two, 1, 99, false}, {nil, nil, two, 1, 99, false},
		{nil, five, one, 1, 99, false}, {six, never, one, 1, 99, false}, {nil, both, one, 1, 99, true}, {both, nil, one, 1, 99, false}, {nil, both, one, 5, 99, false}, {nil, five, two, 5, 99, false}, {nil, five, two, 4, 99, true},
		{nil, five, none, 1, 99, false}, {nil, five, api.Spec{}, 1, 99, false}, {five, nil, none, 1, 99, false},
		{five, six, two, -1, 99, true}, {six, five, two, -1, 99, false}, {nil, five, two, -1, 99, false}, {five, nil, two, -1, 99, true}, {five, nil, two, math.MinInt64, 99, true},
		{nil, five, two, api.Never, math.MaxInt64, false}, {nil, never, two, api.Never - 1, api.Never, true}, {nil, never, two, api.Never, math.MaxInt64, false}, {nil, five, two, 1, -1, false}, {nil, five, two, 1, math.MinInt64, false}, {nil, five, two, 1, math.MaxInt64, true},
	} {
		if got := pick.Later(g, use, c.before, c.after, c.s, c.now, c.until); got != c.want {
			t.Errorf("%d: Later(%v, %v, %+v, %d, %d) = %v", i, c.before, c.after, c.s, c.now, c.until, got)
		}
	}
}

// P14.2: in a list that is no table there is no slot: none made later, and none left.
func TestLaterOfNoTable(t *testing.T) {
	two := api.Spec{Nodes: 1, Cores: 2, Long: 3}
	for _, l := range noTables() {
		if pick.Later(site(), span(0, 6), l, nil, two, 1, 99) || pick.Later(site(), span(0, 6), l, l, two, 1, 99) || pick.Later(site(), span(0, 6), l, []api.Held{hold(1, 0, 9, 1, 2, 3)}, two, 1, 99) {
			t.Errorf("of %v a slot is made later", l)
		}
		if !pick.Later(site(), span(0, 6), nil, l, two, 1, 99) {
			t.Errorf("in %v a slot is found", l)
		}
	}
}

// P14.2: what may not be asked for, with what is no graph, or of what is no set, has no slot to be made later.
func TestLaterOfWrong(t *testing.T) {
	_, _, l := pair()
	for _, s := range noSpecs() {
		if pick.Later(site(), span(0, 6), nil, l, s, 1, math.MaxInt64) {
			t.Errorf("%+v is made later", s)
		}
	}
	two := api.Spec{Nodes: 1, Cores: 2, Long: 3}
	for _, g := range noGraphs() {
		if pick.Later(g, span(0, 6), nil, l, two, 1, 99) {
			t.Errorf("with %v it is made later", g)
		}
	}
	for _, use := range append(noSets(), nil) {
		if pick.Later(site(), use, nil, l, two, 1, 99) {
			t.Errorf("of %v it is made later", use)
		}
	}
}

// P14.2: all specs with small tables, in pairs.
func TestLaterByModel(t *testing.T) {
	tables, roll := siteTables(), dice(7)
	many := map[bool]int{}
	for _, before := range tables {
		for _, s := range siteSpecs() {
			after := tables[roll(len(tables))]
			a := ask{g: site(), use: siteUses()[roll(9)/2], now: int64(roll(8) - 1), until: api.Never}
			if roll(3) == 0 {
				a.until = int64(roll(12))
			}
			want := a.later(before, after, s)
			if got := pick.Later(a.g, a.use, before, after, s, a.now, a.until); got != want {
				t.Fatalf("Later of %+v, of %v and %v, of %+v = %v", a, before, after, s, got)
			}
			many[want]++
		}
	}
	if many[true] < 300 || many[false] < 300 {
		t.Error("too few of a kind:", many)
	}
}

// P14.2: with more in a table nothing is earlier, with less nothing later; of great ones.
func TestLaterOfGreat(t *testing.T) {
	great(func(a ask, list []api.Want) {
		for k, w := range list[:min(len(list), 6)] {
			less := a.l[len(a.l)*k/6:]
			if pick.Later(a.g, a.use, a.l, less, w.Spec, a.now, a.until) {
				t.Fatalf("of %+v: with less that is held %+v is later", a, w)
			}
			if got, want := pick.Later(a.g, a.use, less, a.l, w.Spec, a.now, a.until), a.later(less, a.l, w.Spec); got != want {
				t.Fatalf("of %+v, less %d holdings, of %+v: Later = %v", a, len(a.l)-len(less), w, got)
			}
		}
	})
}
