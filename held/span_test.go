package held_test

import (
	"math"
	"slices"
	"testing"

	"bailiwick/api"
	"bailiwick/held"
)

// P10.2: what is held at a time of a span. Told by hand.
func TestBusy(t *testing.T) {
	for _, c := range []struct {
		from, to int64
		want     []int
	}{
		{0, 1, []int{0, 1, 2, 3, 4, 200}}, {4, 5, []int{0, 1, 2, 3, 4, 200}}, {5, 6, []int{0, 1, 2, 3, 4}}, {4, 6, []int{0, 1, 2, 3, 4, 200}},
		{9, 12, []int{0, 1, 2, 3, 255}}, {12, 13, []int{0, 1, 2, 3, 4, 255}}, {13, 14, []int{0, 1, 2, 255}}, {13, api.Never, []int{0, 1, 2, 255}},
		{api.Never - 1, api.Never, []int{0, 1, 2, 255}}, {0, api.Never, []int{0, 1, 2, 3, 4, 200, 255}},
		{5, 5, nil}, {0, 0, nil}, {6, 5, nil}, {9, 0, nil}, {api.Never, 0, nil}, {math.MaxInt64, math.MinInt64, nil},
		{-5, 0, nil}, {math.MinInt64, 0, nil}, {-5, 1, []int{0, 1, 2, 3, 4, 200}}, {math.MinInt64, 1, []int{0, 1, 2, 3, 4, 200}},
		{api.Never, api.Never + 1, nil}, {api.Never, math.MaxInt64, nil}, {api.Never - 1, math.MaxInt64, []int{0, 1, 2, 255}}, {math.MinInt64, math.MaxInt64, []int{0, 1, 2, 3, 4, 200, 255}},
	} {
		if got := held.Busy(few(), c.from, c.to); !slices.Equal(got, c.want) {
			t.Errorf("Busy(%d, %d) = %v, not %v", c.from, c.to, got, c.want)
		}
	}
	if got := held.Busy(nil, 0, api.Never); len(got) > 0 {
		t.Error("of nobody:", got)
	}
}

// P10.2: of all small tables, and great ones, all spans between times at which something changes, empty ones too.
func TestBusyByModel(t *testing.T) {
	for _, l := range tables() {
		times := moments(l)
		for i, from := range times {
			for k := i % 3; k < len(times); k += 3 {
				if got, want := held.Busy(l, from, times[k]), busy(l, from, times[k]); !slices.Equal(got, want) {
					t.Fatalf("Busy(%v, %d, %d) = %v, not %v", l, from, times[k], got, want)
				}
			}
		}
	}
}

// P10.2: whose To is not later than now is over; both lists stand in order.
func TestOver(t *testing.T) {
	for _, l := range tables() {
		for _, now := range moments(l) {
			rest, gone := held.Over(l, now)
			if !equal(rest, keep(l, func(h api.Held) bool { return h.To > now })) || !equal(gone, keep(l, func(h api.Held) bool { return h.To <= now })) {
				t.Fatalf("Over(%v, %d) = %v, %v", l, now, rest, gone)
			}
			if !held.Right(rest) || !held.Right(gone) {
				t.Fatalf("Over(%v, %d): one isn't right", l, now)
			}
		}
	}
}

// P10.2: the same told by hand.
func TestOverFew(t *testing.T) {
	for _, c := range []struct {
		now  int64
		gone []int
	}{
		{math.MinInt64, nil}, {-1, nil}, {0, nil}, {4, nil}, {5, []int{1}}, {8, []int{1}}, {9, []int{-3, 1, 4}}, {11, []int{-3, 1, 4}}, {12, []int{-3, 1, 4, 9}}, {13, []int{-3, 1, 4, 9, 10}},
		{api.Never - 1, []int{-3, 1, 4, 9, 10}}, {api.Never, []int{-3, 1, 4, 7, 9, 10}}, {api.Never + 1, []int{-3, 1, 4, 7, 9, 10}}, {math.MaxInt64, []int{-3, 1, 4, 7, 9, 10}},
	} {
		rest, gone := held.Over(few(), c.now)
		var ids []int
		for _, h := range gone {
			ids = append(ids, h.ID)
		}
		if !slices.Equal(ids, c.gone) || len(rest)+len(gone) != len(few()) {
			t.Errorf("Over(%d) = %v, %v", c.now, rest, gone)
		}
	}
}

// P10.2: the times at which holdings end, later than a time. Told by hand.
func TestEnds(t *testing.T) {
	for _, c := range []struct {
		from int64
		want []int64
	}{
		{math.MinInt64, []int64{5, 9, 12, 13, api.Never}}, {-1, []int64{5, 9, 12, 13, api.Never}}, {0, []int64{5, 9, 12, 13, api.Never}}, {4, []int64{5, 9, 12, 13, api.Never}},
		{5, []int64{9, 12, 13, api.Never}}, {8, []int64{9, 12, 13, api.Never}}, {9, []int64{12, 13, api.Never}}, {12, []int64{13, api.Never}}, {13, []int64{api.Never}},
		{api.Never - 1, []int64{api.Never}}, {api.Never, nil}, {api.Never + 1, nil}, {math.MaxInt64, nil},
	} {
		if got := held.Ends(few(), c.from); !slices.Equal(got, c.want) {
			t.Errorf("Ends(%d) = %v, not %v", c.from, got, c.want)
		}
	}
	if got := held.Ends(nil, -1); len(got) > 0 {
		t.Error("of nobody:", got)
	}
}

// P10.2: the same of all small tables, and great ones.
func TestEndsByModel(t *testing.T) {
	for _, l := range tables() {
		for _, from := range moments(l) {
			if got, want := held.Ends(l, from), ends(l, from); !slices.Equal(got, want) {
				t.Fatalf("Ends(%v, %d) = %v, not %v", l, from, got, want)
			}
		}
	}
}
