package pick_test

import (
	"slices"
	"testing"

	"bailiwick/api"
	"bailiwick/held"
	"bailiwick/pick"
	"bailiwick/slot"
)

// answer is what a pick answered to an ask, and who would begin.
type answer struct {
	ask
	list        []api.Want
	begin, kept []api.Held
}

// of is the holding of a number in a list in any order; false, if there is none.
func of(l []api.Held, id int) (api.Held, bool) {
	at := slices.IndexFunc(l, func(h api.Held) bool { return h.ID == id })
	if at < 0 {
		return api.Held{}, false
	}
	return l[at], true
}

// ahead are those of a list of holdings who stand ahead of the place k in the list of who would begin.
func (x answer) ahead(l []api.Held, k int) []api.Held {
	return slices.DeleteFunc(deep(l), func(h api.Held) bool {
		return !slices.ContainsFunc(x.list[:k], func(w api.Want) bool { return w.ID == h.ID })
	})
}

// each tells of the picks of an ask that were answered with OK, and in which no two have one number.
func each(t *testing.T, tell func(x answer)) {
	t.Helper()
	all := func(a ask, list []api.Want) {
		ids := map[int]int{}
		for _, w := range list {
			ids[w.ID]++
		}
		if begin, kept, e := pickOf(a, list); e == api.OK && len(ids) == len(list) {
			tell(answer{a, list, begin, kept})
		}
	}
	every(all)
	small(all)
	great(all)
}

// P14.3: each of who begins does so now, for as long as it asks, with what it gets of what those ahead of it leave; who is kept has its slot there later.
func TestEachBeginsNow(t *testing.T) {
	each(t, func(x answer) {
		for k, w := range x.list {
			l := with(x.l, x.ahead(x.begin, k), x.ahead(x.kept, k))
			things, fits := slot.At(x.g, x.use, l, w.Spec, x.now, x.until)
			b, begins := of(x.begin, w.ID)
			h, kept := of(x.kept, w.ID)
			if begins && (kept || !fits || !alike(b, hold(w.ID, x.now, end(w.Spec, x.now), things...))) {
				t.Fatalf("of %+v: %v begins, and %v, %v is got", x, b, things, fits)
			}
			if kept && (fits || h.From <= x.now || h.To != end(w.Spec, h.From)) {
				t.Fatalf("of %+v: %v is kept", x, h)
			}
			if fits && !begins && (x.policy != api.Fcfs || len(x.ahead(x.begin, k)) == k) {
				t.Fatalf("of %+v: %+v could begin", x, w)
			}
		}
		if !held.Right(with(x.l, x.begin, x.kept)) {
			t.Fatalf("of %+v: they don't go with the table", x)
		}
	})
}

// P14.3: with Fcfs, as long as all have slots, those who begin are the first ones of the list, and nobody is kept.
func TestFcfsIsFirst(t *testing.T) {
	many := map[bool]int{}
	each(t, func(x answer) {
		if x.policy != api.Fcfs {
			return
		}
		all := !slices.ContainsFunc(x.list, func(w api.Want) bool {
			_, _, ok := slot.First(x.g, x.use, with(x.l, x.begin), w.Spec, x.now, x.until)
			return !ok
		})
		for k, h := range x.begin {
			if all && h.ID != x.list[k].ID {
				t.Fatalf("of %+v: they aren't the first ones", x)
			}
		}
		if all && len(x.begin) < len(x.list) {
			next := x.list[len(x.begin)]
			if _, ok := slot.At(x.g, x.use, with(x.l, x.begin), next.Spec, x.now, x.until); ok {
				t.Fatalf("of %+v: %+v could begin", x, next)
			}
			many[len(x.begin) > 0]++
		}
		if len(x.kept) > 0 {
			t.Fatalf("of %+v: one is kept", x)
		}
	})
	if many[true] < 100 || many[false] < 100 {
		t.Error("too few of a kind:", many)
	}
}

// P14.3: with Easy the first one that can't begin is made no later by those behind it, of whom some may begin.
func TestEasyIsNotLater(t *testing.T) {
	many := map[bool]int{}
	each(t, func(x answer) {
		if x.policy != api.Easy {
			return
		}
		for k, w := range x.list {
			l := with(x.l, x.ahead(x.begin, k))
			first, things, ok := slot.First(x.g, x.use, l, w.Spec, x.now, x.until)
			if !ok || first == x.now {
				continue
			}
			if !equal(x.kept, []api.Held{hold(w.ID, first, end(w.Spec, first), things...)}) {
				t.Fatalf("of %+v: %+v isn't kept", x, w)
			}
			if pick.Later(x.g, x.use, l, with(x.l, x.begin), w.Spec, x.now, x.until) {
				t.Fatalf("of %+v: %+v is made later", x, w)
			}
			many[len(x.begin) > len(x.ahead(x.begin, k))]++
			return
		}
		if len(x.kept) > 0 {
			t.Fatalf("of %+v: one is kept", x)
		}
	})
	if many[true] < 100 || many[false] < 100 {
		t.Error("too few of a kind:", many)
	}
}

// P14.3: with Conser none that is kept is made later by one behind it; and as many are kept as there are, up to the depth.
func TestConserIsNotLater(t *testing.T) {
	many := map[bool]int{}
	each(t, func(x answer) {
		if x.policy != api.Conser {
			return
		}
		kept := 0
		for k, w := range x.list {
			ahead := with(x.l, x.ahead(x.begin, k), x.ahead(x.kept, k))
			first, things, ok := slot.First(x.g, x.use, ahead, w.Spec, x.now, x.until)
			if !ok || first == x.now || kept == x.depth {
				continue
			}
			if kept == len(x.kept) || !alike(x.kept[kept], hold(w.ID, first, end(w.Spec, first), things...)) {
				t.Fatalf("of %+v: %+v isn't kept", x, w)
			}
			kept++
			behind := slices.DeleteFunc(with(x.l, x.begin, x.kept), func(h api.Held) bool { return h.ID == w.ID })
			if pick.Later(x.g, x.use, ahead, behind, w.Spec, x.now, x.until) {
				t.Fatalf("of %+v: %+v is made later", x, w)
			}
			many[len(behind) > len(ahead)]++
		}
		if kept != len(x.kept) {
			t.Fatalf("of %+v: too many are kept", x)
		}
	})
	if many[true] < 100 || many[false] < 100 {
		t.Error("too few of a kind:", many)
	}
}

// P14.3: where all have slots at once all policies let the same ones begin, and keep nobody.
func TestAllBegin(t *testing.T) {
	list := []api.Want{cores(9, 1, 3), cores(4, 1, 7), cores(6, 1, 2)}
	for policy := 1; policy <= 3; policy++ {
		begin, kept, e := pick.Pick(site(), span(0, 6), nil, list, 2, 99, policy, 3)
		if e != api.OK || len(kept) > 0 || !equal(begin, []api.Held{hold(9, 2, 5, 2), hold(4, 2, 9, 3), hold(6, 2, 4, 5)}) {
			t.Errorf("policy %d: %v, %v, %v", policy, begin, kept, e)
		}
	}
}
