package held_test

import (
	"math"
	"slices"
	"testing"

	"bailiwick/api"
	"bailiwick/held"
)

// wantAdd tells where Add answers otherwise than the document's words.
func wantAdd(t *testing.T, l []api.Held, h api.Held) {
	t.Helper()
	want, e := add(l, h)
	if m, got := held.Add(l, h); got != e || !equal(m, want) || got == api.OK && !held.Right(m) {
		t.Fatalf("Add(%v, %v) = %v, %v, not %v, %v", l, h, m, got, want, e)
	}
}

// P10.1: what may be added, where it stands then, and what is refused. Told by hand.
func TestAdd(t *testing.T) {
	l := []api.Held{hold(2, 0, 5, 2, 3), hold(5, 4, 8, 7)}
	for _, c := range []struct {
		h  api.Held
		e  api.Errno
		at int
	}{
		{hold(1, 5, 6, 3), api.OK, 0}, {hold(3, 5, 6, 3), api.OK, 1}, {hold(4, 0, 4, 7), api.OK, 1}, {hold(6, 8, 9, 7), api.OK, 2},
		{hold(-1, 0, 9, 0, 1, 4), api.OK, 0}, {hold(math.MinInt, 0, 1, 255), api.OK, 0}, {hold(math.MaxInt, 0, api.Never, 255), api.OK, 2},
		{hold(3, 4, 6, 3), api.ErrFull, 0}, {hold(3, 4, 5, 2), api.ErrFull, 0}, {hold(3, 0, 1, 3), api.ErrFull, 0}, {hold(3, 0, 9, 1, 3), api.ErrFull, 0}, {hold(1, 7, 9, 7), api.ErrFull, 0}, {hold(6, 0, api.Never, 7), api.ErrFull, 0},
		{hold(2, 5, 6, 1), api.ErrTwice, 0}, {hold(5, 8, 9, 7), api.ErrTwice, 0}, {hold(5, 4, 8, 7), api.ErrTwice, 0}, {hold(2, 4, 6, 2), api.ErrTwice, 0},
		{hold(2, 5, 5, 1), api.ErrArg, 0}, {hold(2, 5, 6), api.ErrArg, 0}, {hold(3, 5, 4, 1), api.ErrArg, 0}, {hold(3, 5, 6, 1, 1), api.ErrArg, 0}, {hold(3, -1, 6, 1), api.ErrArg, 0}, {hold(3, 0, api.Never+1, 2), api.ErrArg, 0},
	} {
		want := l
		if c.e == api.OK {
			want = slices.Insert(deep(l), c.at, c.h)
		}
		if m, e := held.Add(l, c.h); e != c.e || !equal(m, want) {
			t.Errorf("Add(%v) = %v, %v", c.h, m, e)
		}
	}
}

// P10.1: all small tables with a holding more of any number, any span and any things; and great ones with some.
func TestAddByModel(t *testing.T) {
	for _, l := range tables() {
		extra := holdings(spans(0, 2, 3, 5), [][]int{{0}, {1}, {2, 3}, {64, 255}})
		extra = append(extra, holdings(spans(1, 9, api.Never-1, api.Never), [][]int{{0, 1, 2}, {3, 255}})...)
		for k, h := range extra {
			ids := numbers(l)
			for _, id := range []int{ids[k%len(ids)], 100000} {
				h.ID = id
				wantAdd(t, l, h)
			}
		}
	}
}

// P10.1: what one holding of a table leaves free is just what can be added.
func TestAddBesideOne(t *testing.T) {
	times := []int64{0, 1, 2, 3, api.Never - 1, api.Never}
	for _, s := range spans(times...) {
		l := []api.Held{hold(5, s[0], s[1], 2, 70, 255)}
		for _, o := range spans(times...) {
			for _, things := range [][]int{{0}, {2}, {70}, {255}, {3, 71, 254}, {1, 2}, {64, 69, 70}, {0, 255}, {2, 70, 255}} {
				wantAdd(t, l, hold(4, o[0], o[1], things...))
				wantAdd(t, l, hold(6, o[0], o[1], things...))
			}
		}
	}
}

// P10.1: ErrArg of each holding that may not be, ahead of what else is wrong with it.
func TestAddWrong(t *testing.T) {
	for _, l := range [][]api.Held{nil, few(), row(256)} {
		for _, id := range numbers(l) {
			for _, h := range []api.Held{hold(id, 20, 30, 240), hold(id, 4, 6, 0, 3)} {
				for _, bad := range spoilt(h) {
					if m, e := held.Add(l, bad); e != api.ErrArg || !equal(m, l) {
						t.Fatalf("Add(%v, %v) = %v, %v", l, bad, m, e)
					}
				}
			}
		}
	}
}

// P10.1: the 256th has room, the 257th hasn't, though its things are free; but that its number is there is told first.
func TestAddFull(t *testing.T) {
	for _, l := range [][]api.Held{row(256), chain(256), weave(256)} {
		last := l[len(l)-1]
		h := hold(100000, 100000, 100001, 5)
		if m, e := held.Add(l[:255], h); e != api.OK || len(m) != 256 || !held.Right(m) {
			t.Error("the 256th:", e)
		}
		for _, h := range []api.Held{h, hold(-100000, 100000, 100001, 5), hold(last.ID+1, 100000, 100001, 5)} {
			if m, e := held.Add(l, h); e != api.ErrFull || !equal(m, l) {
				t.Error("the 257th:", h, e)
			}
		}
		h.ID = last.ID
		if m, e := held.Add(l, h); e != api.ErrTwice || !equal(m, l) {
			t.Error("its number is there:", e)
		}
	}
}

// P10.1: the table without a holding, and it; ErrNone, and nothing, where it isn't there.
func TestDrop(t *testing.T) {
	for _, l := range tables() {
		for _, id := range numbers(l) {
			m, h, e := held.Drop(l, id)
			at := slices.IndexFunc(l, func(h api.Held) bool { return h.ID == id })
			if at < 0 {
				if e != api.ErrNone || len(m) > 0 || !alike(h, api.Held{}) {
					t.Fatalf("Drop(%v, %d) = %v, %v, %v", l, id, m, h, e)
				}
				continue
			}
			want := keep(l, func(h api.Held) bool { return h.ID != id })
			if e != api.OK || !equal(m, want) || !alike(h, l[at]) || !held.Right(m) {
				t.Fatalf("Drop(%v, %d) = %v, %v, %v", l, id, m, h, e)
			}
		}
	}
}

// P10.1: a holding ends earlier, or as it did; no other one does.
func TestCut(t *testing.T) {
	l := []api.Held{hold(2, 0, 5, 2, 3), hold(5, 4, 8, 7), hold(6, 8, api.Never, 7)}
	for _, c := range []struct {
		id int
		to int64
		e  api.Errno
	}{
		{2, 1, api.OK}, {2, 4, api.OK}, {2, 5, api.OK}, {2, 0, api.ErrArg}, {2, -1, api.ErrArg}, {2, 6, api.ErrArg}, {2, api.Never, api.ErrArg},
		{5, 5, api.OK}, {5, 8, api.OK}, {5, 4, api.ErrArg}, {5, 3, api.ErrArg}, {5, 0, api.ErrArg}, {5, 9, api.ErrArg},
		{6, 9, api.OK}, {6, api.Never, api.OK}, {6, api.Never - 1, api.OK}, {6, 8, api.ErrArg}, {6, api.Never + 1, api.ErrArg}, {6, math.MaxInt64, api.ErrArg}, {6, math.MinInt64, api.ErrArg},
		{1, 1, api.ErrNone}, {3, 1, api.ErrNone}, {7, 1, api.ErrNone}, {3, -1, api.ErrNone}, {7, math.MaxInt64, api.ErrNone}, {-2, math.MinInt64, api.ErrNone},
	} {
		var want []api.Held
		if c.e == api.OK {
			want = deep(l)
			want[slices.IndexFunc(l, func(h api.Held) bool { return h.ID == c.id })].To = c.to
		}
		if m, e := held.Cut(l, c.id, c.to); e != c.e || !equal(m, want) {
			t.Errorf("Cut(%d, %d) = %v, %v", c.id, c.to, m, e)
		}
	}
}

// P10.1: of all small tables, and great ones, each holding at each time at which something changes.
func TestCutByModel(t *testing.T) {
	for _, l := range tables() {
		for at := 0; at < len(l); at += 1 + len(l)/5 {
			for _, to := range append(moments(l), l[at].From, l[at].From+1, l[at].To, l[at].To-1, l[at].To+1) {
				m, e := held.Cut(l, l[at].ID, to)
				if to <= l[at].From || to > l[at].To {
					if e != api.ErrArg || len(m) > 0 {
						t.Fatalf("Cut(%v, %d, %d) = %v, %v", l, l[at].ID, to, m, e)
					}
					continue
				}
				want := deep(l)
				want[at].To = to
				if e != api.OK || !equal(m, want) || !held.Right(m) {
					t.Fatalf("Cut(%v, %d, %d) = %v, %v", l, l[at].ID, to, m, e)
				}
			}
		}
		if m, e := held.Cut(l, 100000, 1); e != api.ErrNone || len(m) > 0 {
			t.Fatalf("Cut(%v) of none = %v, %v", l, m, e)
		}
	}
}
