package slot_test

import (
	"math"
	"slices"
	"testing"

	"bailiwick/api"
	"bailiwick/slot"
)

// wantFirst tells where First answers otherwise than the document's words.
func wantFirst(t *testing.T, a ask, from int64) {
	t.Helper()
	want, things, yes := a.first(from)
	if at, got, ok := slot.First(a.g, a.use, a.l, a.s, from, a.until); at != want || ok != yes || !slices.Equal(got, things) {
		t.Fatalf("First of %+v from %d on = %d, %v, %v, not %d, %v, %v", a, from, at, got, ok, want, things, yes)
	}
}

// P13.1: the first of the times that count at which it fits. Told by hand.
func TestFirst(t *testing.T) {
	l := []api.Held{hold(1, 0, 5, 2), hold(2, 4, 8, 5), hold(3, 20, api.Never, 3)}
	one, two, both := api.Spec{Nodes: 1, Cores: 1, Long: 3}, api.Spec{Nodes: 1, Cores: 2, Long: 3}, api.Spec{Nodes: 2, Cores: 1, Long: 4}
	for i, c := range []struct {
		s           api.Spec
		from, until int64
		at          int64
		things      []int
	}{
		{one, 0, 99, 0, []int{3}}, {one, 0, 3, 0, []int{3}}, {one, 0, 2, 0, nil}, {one, 3, 99, 3, []int{3}}, {one, 97, 99, 0, nil}, {one, 96, 99, 96, []int{2}},
		{two, 0, 99, 5, []int{2, 3}}, {two, 4, 99, 5, []int{2, 3}}, {two, 5, 99, 5, []int{2, 3}}, {two, 6, 99, 6, []int{2, 3}}, {two, 17, 99, 17, []int{2, 3}}, {two, 18, 99, 0, nil}, {two, 0, 8, 5, []int{2, 3}}, {two, 0, 7, 0, nil},
		{both, 0, 99, 0, []int{3, 5}}, {both, 1, 99, 8, []int{2, 5}}, {both, 1, 12, 8, []int{2, 5}}, {both, 1, 11, 0, nil}, {both, 9, 99, 9, []int{2, 5}},
		{one, -1, 99, 5, []int{2}}, {one, math.MinInt64, 99, 5, []int{2}}, {two, -1, 99, 5, []int{2, 3}}, {both, -1, 99, 8, []int{2, 5}}, {both, -1, 11, 0, nil},
		{one, api.Never, api.Never, 0, nil}, {one, api.Never, math.MaxInt64, 0, nil}, {one, api.Never + 1, math.MaxInt64, 0, nil}, {one, math.MaxInt64, math.MaxInt64, 0, nil},
		{one, api.Never - 1, api.Never, api.Never - 1, []int{2}}, {one, api.Never - 1, api.Never - 1, 0, nil}, {two, api.Never - 1, api.Never, 0, nil},
		{one, 0, -1, 0, nil}, {one, 0, math.MinInt64, 0, nil}, {one, 0, math.MaxInt64, 0, []int{3}},
		{api.Spec{Nodes: 1, Cores: 3, Long: 1}, 0, 99, 0, nil}, {api.Spec{Nodes: 3, Cores: 1, Long: 1}, 0, 99, 0, nil},
	} {
		at, things, ok := slot.First(site(), span(0, 6), l, c.s, c.from, c.until)
		if at != c.at || ok != (c.things != nil) || !slices.Equal(things, c.things) {
			t.Errorf("%d: First(%+v, %d, %d) = %d, %v, %v", i, c.s, c.from, c.until, at, things, ok)
		}
	}
}

// P13.1: where nobody holds anything only from counts: at once, or not at all; and not at all, if it is no time.
func TestFirstOfNobody(t *testing.T) {
	s := api.Spec{Nodes: 2, Cores: 1, Long: 5}
	for _, from := range []int64{0, 1, 7, api.Never - 5, api.Never - 1} {
		if at, things, ok := slot.First(site(), span(0, 6), nil, s, from, api.Never); !ok || at != from || !slices.Equal(things, []int{2, 5}) {
			t.Errorf("from %d on: %d, %v, %v", from, at, things, ok)
		}
	}
	for _, from := range []int64{math.MinInt64, -1, api.Never, api.Never + 1, math.MaxInt64} {
		if at, things, ok := slot.First(site(), span(0, 6), nil, s, from, api.Never); ok || at != 0 || len(things) > 0 {
			t.Errorf("from %d on: %d, %v, %v", from, at, things, ok)
		}
	}
}

// P13.1: the same of small tables, with all of what may be used and with less, from all times about theirs on.
func TestFirstByModel(t *testing.T) {
	small(func(a ask) {
		for _, from := range []int64{math.MinInt64, -1, 0, 1, 2, 3, 4, 5, 6, 7, api.Never - 3, api.Never - 2, api.Never - 1, api.Never, api.Never + 1, math.MaxInt64} {
			wantFirst(t, a, from)
		}
	})
}

// P13.1: the same of great ones.
func TestFirstOfGreat(t *testing.T) {
	great(func(a ask, roll func(n int) int) {
		for _, from := range moments(a.l) {
			wantFirst(t, a, from)
		}
	})
}

// P13.1: it fits when First says so, by At; and at no time from from on that is earlier, whether it counts or not.
func TestFirstIsFirst(t *testing.T) {
	small(func(a ask) {
		for from := int64(0); from < 8; from++ {
			first, things, ok := slot.First(a.g, a.use, a.l, a.s, from, a.until)
			for at := from; at < 10 && (!ok || at < first); at++ {
				if got, yes := slot.At(a.g, a.use, a.l, a.s, at, a.until); yes {
					t.Fatalf("of %+v: First from %d on is %d, %v, and at %d there are %v", a, from, first, ok, at, got)
				}
			}
			if got, yes := slot.At(a.g, a.use, a.l, a.s, first, a.until); ok && (!yes || !slices.Equal(got, things)) {
				t.Fatalf("of %+v: First from %d on is %d, %v, and then At is %v, %v", a, from, first, things, got, yes)
			}
		}
	})
}
