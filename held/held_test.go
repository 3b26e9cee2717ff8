package held_test

import (
	"slices"
	"testing"

	"bailiwick/api"
	"bailiwick/held"
)

// P10.1: is it a table? Told by hand.
func TestRight(t *testing.T) {
	for i, c := range []struct {
		l    []api.Held
		want bool
	}{
		{nil, true}, {[]api.Held{}, true}, {few(), true}, {row(256), true}, {chain(256), true}, {chain(257), false},
		{[]api.Held{hold(0, 0, 1, 0)}, true}, {[]api.Held{hold(-5, 0, api.Never, 255)}, true}, {[]api.Held{hold(5, api.Never-1, api.Never, 255)}, true},
		{[]api.Held{hold(5, api.Never, api.Never, 1)}, false}, {[]api.Held{hold(5, api.Never-1, api.Never+1, 1)}, false}, {[]api.Held{hold(5, -1, 3, 1)}, false},
		{[]api.Held{hold(5, 3, 3, 1)}, false}, {[]api.Held{hold(5, 3, 2, 1)}, false}, {[]api.Held{hold(5, 0, 3)}, false},
		{[]api.Held{hold(5, 0, 3, 1, 1)}, false}, {[]api.Held{hold(5, 0, 3, 2, 1)}, false}, {[]api.Held{hold(5, 0, 3, 256)}, false}, {[]api.Held{hold(5, 0, 3, -1)}, false},
		{[]api.Held{hold(1, 0, 5, 2, 3), hold(2, 5, 9, 3)}, true},
		{[]api.Held{hold(1, 0, 5, 2, 3), hold(2, 4, 9, 3)}, false},
		{[]api.Held{hold(1, 0, 5, 2, 3), hold(2, 4, 9, 1, 4)}, true},
		{[]api.Held{hold(1, 5, 9, 2, 3), hold(2, 0, 5, 3)}, true},
		{[]api.Held{hold(1, 4, 9, 2, 3), hold(2, 0, 5, 3)}, false},
		{[]api.Held{hold(1, 0, 9, 3), hold(2, 4, 5, 3)}, false},
		{[]api.Held{hold(1, 4, 5, 3), hold(2, 0, 9, 3)}, false},
		{[]api.Held{hold(1, 0, 5, 3), hold(2, 0, 5, 3)}, false},
		{[]api.Held{hold(1, 0, 5, 3), hold(1, 5, 9, 3)}, false},
		{[]api.Held{hold(2, 0, 5, 3), hold(1, 5, 9, 3)}, false},
		{[]api.Held{hold(1, 0, 9, 1), hold(2, 1, 3, 2), hold(3, 4, 5, 1)}, false},
	} {
		if got := held.Right(c.l); got != c.want {
			t.Errorf("%d: Right of %d holdings is %v", i, len(c.l), got)
		}
	}
}

// P10.1: is it a table? All small lists, and great ones, held against the document's words.
func TestRightByModel(t *testing.T) {
	for _, l := range slices.Concat(small(), great(), wrong()) {
		if got, want := held.Right(l), right(l); got != want {
			t.Fatalf("Right(%v) = %v", l, got)
		}
	}
	for _, l := range great() {
		if !held.Right(l) {
			t.Errorf("Right(%v) is false", l)
		}
	}
}

// P10.1: is it a table? Tables with numbers that don't go by the times, with each holding longer or elsewhere.
func TestRightMixed(t *testing.T) {
	for seed := 0; seed < 256; seed += 3 {
		l := mixed(13+seed*7%244, seed+1)
		for at, h := range l {
			for _, s := range [][2]int64{{h.From, h.To}, {h.From, h.To + 1}, {h.From, h.To + 5}, {max(h.From-1, 0), h.To}, {h.From + 5, h.To + 5}, {h.To, h.To + 1}} {
				if at%23 != seed%23 {
					break
				}
				l[at] = hold(h.ID, s[0], s[1], h.Things...)
				if got, want := held.Right(l), right(l); got != want {
					t.Fatalf("Right(%v) = %v", l, got)
				}
			}
			l[at] = h
		}
	}
}

// P10.1: is it a table? Many tables whose holdings overlap in no order; and the same with one that is longer.
func TestRightStrewn(t *testing.T) {
	roll := dice(1)
	for range 2000 {
		l := strewn(20+roll(40), 15+roll(16), roll)
		if !right(l) || !held.Right(l) {
			t.Fatalf("Right(%v) is false", l)
		}
		l[roll(len(l))].To += int64(1 + roll(9))
		if got, want := held.Right(l), right(l); got != want {
			t.Fatalf("Right(%v) = %v", l, got)
		}
	}
}

// P10.1: the holding of a number, and whether there is one.
func TestGet(t *testing.T) {
	for _, l := range tables() {
		for _, id := range numbers(l) {
			h, ok := held.Get(l, id)
			at := slices.IndexFunc(l, func(h api.Held) bool { return h.ID == id })
			if ok != (at >= 0) || ok && !alike(h, l[at]) || !ok && !alike(h, api.Held{}) {
				t.Fatalf("Get(%v, %d) = %v, %v", l, id, h, ok)
			}
		}
	}
}

// P10.1, P10.2: of a table that isn't right: ErrArg, it as it is, and nothing, whatever else is asked.
func TestWrongTable(t *testing.T) {
	for _, l := range wrong() {
		ids := []int{-1, 1 << 20}
		for _, h := range l[:min(len(l), 3)] {
			ids = append(ids, h.ID)
		}
		for _, id := range ids {
			wantWrong(t, l, id)
		}
		if b := held.Busy(l, 0, api.Never); len(b) > 0 {
			t.Fatalf("Busy(%v) = %v", l, b)
		}
		if e := held.Ends(l, -1); len(e) > 0 {
			t.Fatalf("Ends(%v) = %v", l, e)
		}
		for _, now := range []int64{-1, 0, 5, api.Never, api.Never + 1} {
			if rest, gone := held.Over(l, now); !equal(rest, l) || len(gone) > 0 {
				t.Fatalf("Over(%v, %d) = %v, %v", l, now, rest, gone)
			}
		}
	}
}

// wantWrong tells where what is asked of a number isn't refused as that of a table that isn't right.
func wantWrong(t *testing.T, l []api.Held, id int) {
	t.Helper()
	for _, h := range []api.Held{hold(id, 0, 1, 77), hold(id, 1, 1, 77), hold(id, api.Never-1, api.Never, 0), {ID: id}} {
		if m, e := held.Add(l, h); e != api.ErrArg || !equal(m, l) {
			t.Fatalf("Add(%v, %v) = %v, %v", l, h, m, e)
		}
	}
	if m, h, e := held.Drop(l, id); e != api.ErrArg || !equal(m, l) || !alike(h, api.Held{}) {
		t.Fatalf("Drop(%v, %d) = %v, %v, %v", l, id, m, h, e)
	}
	if h, ok := held.Get(l, id); ok || !alike(h, api.Held{}) {
		t.Fatalf("Get(%v, %d) = %v, %v", l, id, h, ok)
	}
	for _, to := range []int64{-1, 0, 1, 6, api.Never} {
		if m, e := held.Cut(l, id, to); e != api.ErrArg || !equal(m, l) {
			t.Fatalf("Cut(%v, %d, %d) = %v, %v", l, id, to, m, e)
		}
	}
}
