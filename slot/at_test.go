package slot_test

import (
	"math"
	"slices"
	"testing"

	"bailiwick/api"
	"bailiwick/slot"
)

// wantAt tells where At answers otherwise than the document's words.
func wantAt(t *testing.T, a ask, at int64) {
	t.Helper()
	want, yes := a.at(at)
	if got, ok := slot.At(a.g, a.use, a.l, a.s, at, a.until); ok != yes || !slices.Equal(got, want) {
		t.Fatalf("At of %+v at %d = %v, %v, not %v, %v", a, at, got, ok, want, yes)
	}
}

// P13.1: what it gets at a time. Told by hand.
func TestAt(t *testing.T) {
	l := []api.Held{hold(1, 0, 5, 2), hold(2, 4, 8, 5), hold(3, 20, api.Never, 3)}
	one, two, both := api.Spec{Nodes: 1, Cores: 1, Long: 3}, api.Spec{Nodes: 1, Cores: 2, Long: 3}, api.Spec{Nodes: 2, Cores: 1, Long: 4}
	whole, long := api.Spec{Nodes: 1, Whole: true, Long: 3}, api.Spec{Nodes: 1, Cores: 1, Long: 1 << 40}
	for i, c := range []struct {
		s         api.Spec
		at, until int64
		want      []int
	}{
		{one, 0, 3, []int{3}}, {one, 0, 2, nil}, {one, 5, 8, []int{2}}, {one, 5, 7, nil}, {one, 4, 99, []int{3}},
		{two, 4, 99, nil}, {two, 5, 99, []int{2, 3}}, {two, 17, 99, []int{2, 3}}, {two, 18, 99, nil}, {two, 17, 20, []int{2, 3}}, {two, 17, 19, nil},
		{both, 0, 99, []int{3, 5}}, {both, 1, 99, nil}, {both, 7, 99, nil}, {both, 8, 99, []int{2, 5}}, {both, 17, 99, []int{2, 5}}, {both, 1, 5, nil},
		{whole, 0, 99, []int{4, 5, 6}}, {whole, 1, 99, []int{4, 5, 6}}, {whole, 2, 99, nil}, {whole, 5, 99, []int{1, 2, 3}}, {whole, 18, 99, []int{4, 5, 6}},
		{one, -1, 99, nil}, {one, math.MinInt64, 99, nil}, {one, api.Never, api.Never, nil}, {one, api.Never, math.MaxInt64, nil}, {one, api.Never + 1, math.MaxInt64, nil}, {one, math.MaxInt64, math.MaxInt64, nil},
		{one, api.Never - 1, api.Never, []int{2}}, {one, api.Never - 1, api.Never - 1, nil}, {one, api.Never - 4, api.Never - 1, []int{2}}, {one, api.Never - 3, api.Never - 1, nil},
		{long, api.Never - 5, api.Never, []int{2}}, {long, api.Never - 1<<40, api.Never, []int{2}}, {long, 0, 1 << 40, nil}, {long, 8, 1<<40 + 8, []int{2}}, {long, 8, 1<<40 + 7, nil},
		{one, 0, 0, nil}, {one, 0, -1, nil}, {one, 0, math.MinInt64, nil}, {one, 0, math.MaxInt64, []int{3}},
		{api.Spec{Nodes: 1, Cores: 3, Long: 1}, 0, 99, nil}, {api.Spec{Nodes: 3, Cores: 1, Long: 1}, 9, 99, nil},
	} {
		got, ok := slot.At(site(), span(0, 6), l, c.s, c.at, c.until)
		if ok != (c.want != nil) || !slices.Equal(got, c.want) {
			t.Errorf("%d: At(%+v, %d, %d) = %v, %v", i, c.s, c.at, c.until, got, ok)
		}
	}
}

// P13.1: the same of small tables, with all of what may be used and with less, at all times about theirs.
func TestAtByModel(t *testing.T) {
	small(func(a ask) {
		for _, at := range []int64{math.MinInt64, -1, 0, 1, 2, 3, 4, 5, 6, 7, api.Never - 5, api.Never - 3, api.Never - 2, api.Never - 1, api.Never, api.Never + 1, math.MaxInt64} {
			wantAt(t, a, at)
		}
	})
}

// P13.1: the same of great ones.
func TestAtOfGreat(t *testing.T) {
	great(func(a ask, roll func(n int) int) {
		for _, at := range moments(a.l) {
			wantAt(t, a, at)
		}
	})
}

// P13.1: only what may be used is got, though more is free.
func TestOnlyWhatMayBeUsed(t *testing.T) {
	s := api.Spec{Nodes: 1, Cores: 1, Long: 2}
	for _, c := range []struct{ use, want []int }{
		{span(0, 6), []int{2}}, {[]int{1, 3}, []int{3}}, {[]int{1, 4, 5}, []int{5}}, {[]int{2, 3, 4, 5}, []int{5}}, {span(1, 255), []int{2}}, {[]int{0, 1, 3, 7, 255}, []int{3}},
		{nil, nil}, {[]int{2, 3, 5}, nil}, {[]int{1, 4, 6}, nil}, {[]int{7, 255}, nil}, {[]int{0}, nil},
	} {
		got, ok := slot.At(site(), c.use, nil, s, 0, 9)
		first, things, yes := slot.First(site(), c.use, nil, s, 7, 9)
		if ok != (c.want != nil) || !slices.Equal(got, c.want) {
			t.Errorf("At, of %v: %v, %v", c.use, got, ok)
		}
		if yes != ok || !slices.Equal(things, c.want) || yes && first != 7 || !yes && first != 0 {
			t.Errorf("First, of %v: %d, %v, %v", c.use, first, things, yes)
		}
	}
}

// P13.1, P13.2: nobody fits in a table that isn't right, with what is no graph, of what is no set, nor does what may not be asked for.
func TestWrong(t *testing.T) {
	s, l := api.Spec{Nodes: 1, Cores: 1, Long: 1}, []api.Held{hold(1, 0, 5, 3)}
	var asks []ask
	for _, l := range noTables() {
		asks = append(asks, ask{site(), span(0, 6), l, s, 99})
	}
	for _, g := range noGraphs() {
		asks = append(asks, ask{g, span(0, 6), l, s, 99})
	}
	for _, use := range noSets() {
		asks = append(asks, ask{site(), use, l, s, 99})
	}
	for _, s := range noSpecs() {
		asks = append(asks, ask{site(), span(0, 6), l, s, math.MaxInt64})
	}
	for _, a := range asks {
		for _, at := range []int64{-1, 0, 4, 5, 8, api.Never - 1, api.Never} {
			if things, ok := slot.At(a.g, a.use, a.l, a.s, at, a.until); ok || len(things) > 0 {
				t.Errorf("At of %+v at %d = %v, %v", a, at, things, ok)
			}
			if first, things, ok := slot.First(a.g, a.use, a.l, a.s, at, a.until); ok || first != 0 || len(things) > 0 {
				t.Errorf("First of %+v from %d on = %d, %v, %v", a, at, first, things, ok)
			}
		}
	}
}
