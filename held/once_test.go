package held_test

import (
	"slices"
	"testing"

	"bailiwick/api"
	"bailiwick/held"
	"bailiwick/set"
)

// P10.3: what is Busy in a span is what can't be added for it, thing by thing, while there is room.
func TestBusyCantBeAdded(t *testing.T) {
	for _, l := range tables() {
		if len(l) == api.MaxHeld {
			continue
		}
		for _, s := range spans(0, 1, 2, 4, 5, 9, api.Never-1, api.Never) {
			b := held.Busy(l, s[0], s[1])
			for _, n := range []int{0, 1, 2, 3, 63, 64, 200, 254, 255} {
				want := api.OK
				if set.Has(b, n) {
					want = api.ErrFull
				}
				if _, e := held.Add(l, hold(100000, s[0], s[1], n)); e != want {
					t.Fatalf("Busy(%v, %d, %d) = %v, and Add of %d: %v", l, s[0], s[1], b, n, e)
				}
			}
			wantRestFits(t, l, s, b)
		}
	}
}

// wantRestFits tells where all that isn't busy in a span can't be added at once, or can with one thing that is.
func wantRestFits(t *testing.T, l []api.Held, s [2]int64, b []int) {
	t.Helper()
	rest := set.Less(every(func(int) bool { return true }), b)
	if len(rest) > 0 {
		m, e := held.Add(l, hold(100000, s[0], s[1], rest...))
		if e != api.OK || len(held.Busy(m, s[0], s[1])) != api.MaxThings {
			t.Fatalf("Add to %v from %d to %d of %v: %v", l, s[0], s[1], rest, e)
		}
	}
	if len(b) > 0 {
		more := set.Join(rest, b[len(b)-1:])
		if m, e := held.Add(l, hold(100000, s[0], s[1], more...)); e != api.ErrFull || !equal(m, l) {
			t.Fatalf("Add to %v from %d to %d of %v: %v", l, s[0], s[1], more, e)
		}
	}
}

// P10.3: at any time no thing is held twice, whatever was added, dropped, cut short and over by then; each way the table is told anew by its model.
func TestNoThingTwice(t *testing.T) {
	for seed := range 40 {
		var l, told []api.Held
		roll := dice(seed)
		for range 200 {
			l, told = stir(t, l, told, roll)
			if !equal(l, told) || !held.Right(l) {
				t.Fatalf("%v, not %v", l, told)
			}
			wantOnce(t, l)
		}
	}
}

// stir does one thing with a table, and with its model.
func stir(t *testing.T, l, told []api.Held, roll func(n int) int) ([]api.Held, []api.Held) {
	t.Helper()
	id := roll(24)
	switch roll(8) {
	case 0:
		if m, h, e := held.Drop(l, id); e == api.OK {
			l = m
			if !slices.ContainsFunc(told, func(o api.Held) bool { return alike(o, h) }) {
				t.Fatal("dropped:", h)
			}
			told = keep(told, func(o api.Held) bool { return o.ID != id })
		}
	case 1:
		to := int64(roll(20))
		if m, e := held.Cut(l, id, to); e == api.OK {
			l = m
			told[slices.IndexFunc(told, func(o api.Held) bool { return o.ID == id })].To = to
		}
	case 2:
		if now := int64(roll(9)); roll(4) == 0 {
			l, _ = held.Over(l, now)
			told = keep(told, func(o api.Held) bool { return o.To > now })
		}
	default:
		from := int64(roll(16))
		h := hold(id, from, from+int64(roll(6)), every(func(n int) bool { return n%12 < 3 && roll(3) == 0 && n < 40 })...)
		want, e := add(told, h)
		m, got := held.Add(l, h)
		if got != e {
			t.Fatalf("Add(%v, %v): %v, not %v", l, h, got, e)
		}
		l, told = m, deep(want)
	}
	return l, told
}

// wantOnce tells where a thing is held twice at a time, or is held and not busy, time by time.
func wantOnce(t *testing.T, l []api.Held) {
	t.Helper()
	for at := range int64(24) {
		var holders [256]int
		var all []int
		for _, h := range l {
			if !in(at, h.From, h.To) {
				continue
			}
			for _, n := range h.Things {
				holders[n]++
				all = append(all, n)
			}
		}
		slices.Sort(all)
		if slices.Max(holders[:]) > 1 || !slices.Equal(held.Busy(l, at, at+1), all) {
			t.Fatalf("at %d of %v: %v are held, busy are %v", at, l, all, held.Busy(l, at, at+1))
		}
	}
}
