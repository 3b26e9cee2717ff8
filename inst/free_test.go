package inst_test

import (
	"slices"
	"testing"

	"bailiwick/api"
	"bailiwick/inst"
)

// P16.3: what is had, may be used and is held by nobody, told by hand.
func TestFree(t *testing.T) {
	i := after(t, made(t, site(), api.Fcfs, 0), submit(cores(1, 5)))
	for _, c := range []struct {
		ops  []api.Op
		want []int
	}{
		{nil, []int{0, 1, 3, 4, 5, 6, 7}}, {[]api.Op{tick(4)}, []int{0, 1, 3, 4, 5, 6, 7}}, {[]api.Op{tick(5)}, span(0, 7)}, {[]api.Op{do(1, api.DoEnd)}, span(0, 7)},
		{[]api.Op{submit(cores(2, 5))}, []int{0, 1, 3, 4, 5, 6, 7}}, {[]api.Op{submit(cores(1, 5)), submit(cores(1, 5))}, []int{0, 1, 4, 5, 7}},
		{[]api.Op{lend(9, 0, 2, 3, 7)}, []int{0, 3, 7}}, {[]api.Op{lend(9)}, nil}, {[]api.Op{lend(9, 1, 2)}, []int{1}}, {[]api.Op{lend(9, 1)}, []int{1}}, {[]api.Op{lend(0, span(0, 7)...)}, []int{0, 1, 3, 4, 5, 6, 7}},
		{[]api.Op{mark(1, api.Drain)}, []int{0, 4, 5, 6, 7}}, {[]api.Op{mark(1, api.Down)}, []int{0, 4, 5, 6, 7}}, {[]api.Op{mark(0, api.Drain)}, nil}, {[]api.Op{mark(4, api.Down)}, []int{0, 1, 3}},
		{[]api.Op{mark(2, api.Down)}, []int{0, 1, 3, 4, 5, 6, 7}}, {[]api.Op{mark(3, api.Drain), lend(9, span(1, 6)...)}, []int{1, 4, 5, 6}}, {[]api.Op{tick(api.Never)}, span(0, 7)},
	} {
		if got := inst.Free(after(t, i, c.ops...)); !slices.Equal(got, c.want) {
			t.Errorf("behind %+v: %v, not %v", c.ops, got, c.want)
		}
	}
}

// P16.3: what is held beyond the lease, or of what may not be used, isn't free either.
func TestFreeElsewhere(t *testing.T) {
	tell := func(i api.Inst, _ api.Op) {
		if got := inst.Free(i); !slices.Equal(got, free(i)) {
			t.Fatalf("of %+v: %v, not %v", i, got, free(i))
		}
	}
	every(t, tell)
	walks(t, tell)
	strewns(tell)
}

// P16.3: at the last time ahead of Never what is held isn't free.
func TestFreeAtTheEnd(t *testing.T) {
	i := after(t, made(t, site(), api.Fcfs, 0), tick(api.Never-1), submit(cores(2, 1)))
	if got := inst.Free(i); !slices.Equal(got, []int{0, 1, 4, 5, 6, 7}) {
		t.Error(got)
	}
}
