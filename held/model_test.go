package held_test

import (
	"math"
	"slices"

	"bailiwick/api"
)

// hold is a holding of a number, from and to a time, of things.
func hold(id int, from, to int64, things ...int) api.Held {
	return api.Held{ID: id, Things: things, From: from, To: to}
}

// deep is a copy of a list of holdings.
func deep(l []api.Held) []api.Held {
	var out []api.Held
	for _, h := range l {
		out = append(out, hold(h.ID, h.From, h.To, slices.Clone(h.Things)...))
	}
	return out
}

// alike says whether two holdings say the same.
func alike(a, b api.Held) bool {
	return a.ID == b.ID && a.From == b.From && a.To == b.To && slices.Equal(a.Things, b.Things)
}

// equal says whether two lists of holdings say the same.
func equal(a, b []api.Held) bool { return slices.EqualFunc(a, b, alike) }

// in says whether a time is in a span.
func in(t, from, to int64) bool { return from <= t && t < to }

// may says whether a holding may be, as the document tells it.
func may(h api.Held) bool {
	last := -1
	for _, n := range h.Things {
		if n <= last || n > 255 {
			return false
		}
		last = n
	}
	return last >= 0 && h.From >= 0 && h.From < h.To && h.To <= 1<<62
}

// share says whether a time is in both holdings' spans (if one is, the beginning of one of them is), and a thing in both.
func share(a, b api.Held) bool {
	if !in(a.From, b.From, b.To) && !in(b.From, a.From, a.To) {
		return false
	}
	return slices.ContainsFunc(a.Things, func(n int) bool { return slices.Contains(b.Things, n) })
}

// right says whether l is a table, as the document tells it: each two are held against each other.
func right(l []api.Held) bool {
	for i, h := range l {
		if i >= 256 || !may(h) {
			return false
		}
		for _, o := range l[:i] {
			if o.ID >= h.ID || share(o, h) {
				return false
			}
		}
	}
	return true
}

// add is the table with h, as the document tells it.
func add(l []api.Held, h api.Held) ([]api.Held, api.Errno) {
	switch {
	case !right(l) || !may(h):
		return l, api.ErrArg
	case slices.ContainsFunc(l, func(o api.Held) bool { return o.ID == h.ID }):
		return l, api.ErrTwice
	case len(l) == 256 || slices.ContainsFunc(l, func(o api.Held) bool { return share(o, h) }):
		return l, api.ErrFull
	}
	out := append(deep(l), h)
	slices.SortFunc(out, func(a, b api.Held) int {
		if a.ID < b.ID {
			return -1
		}
		return 1
	})
	return out, api.OK
}

// keep is the holdings of which yes says so, in order.
func keep(l []api.Held, yes func(h api.Held) bool) []api.Held {
	var out []api.Held
	for _, h := range l {
		if yes(h) {
			out = append(out, h)
		}
	}
	return out
}

// busy is what is held at a time of the span, by a table that is right: at the span's beginning, and at those of holdings in it.
func busy(l []api.Held, from, to int64) []int {
	var holders [256]int
	for _, h := range l {
		if in(from, h.From, h.To) && from < to || in(h.From, from, to) {
			for _, n := range h.Things {
				holders[n]++
			}
		}
	}
	return every(func(n int) bool { return holders[n] > 0 })
}

// ends are the Tos that are later than from, of a table that is right: the least of them that isn't told yet, again and again.
func ends(l []api.Held, from int64) []int64 {
	var out []int64
	for {
		next, there := int64(0), false
		for _, h := range l {
			if h.To > from && (!there || h.To < next) {
				next, there = h.To, true
			}
		}
		if !there {
			return out
		}
		out, from = append(out, next), next
	}
}

// spans are all spans that aren't empty from one of these times to another.
func spans(times ...int64) [][2]int64 {
	var out [][2]int64
	for i, from := range times {
		for _, to := range times[i+1:] {
			out = append(out, [2]int64{from, to})
		}
	}
	return out
}

// subsets are all sets of these things that aren't empty.
func subsets(things ...int) [][]int {
	var out [][]int
	for bits := 1; bits < 1<<len(things); bits++ {
		var l []int
		for k, n := range things {
			if bits>>k&1 == 1 {
				l = append(l, n)
			}
		}
		out = append(out, l)
	}
	return out
}

// holdings are all holdings of number 0, in these spans and of these sets.
func holdings(spans [][2]int64, sets [][]int) []api.Held {
	var out []api.Held
	for _, s := range spans {
		for _, things := range sets {
			out = append(out, hold(0, s[0], s[1], things...))
		}
	}
	return out
}

// lists are all lists of up to so many holdings out of these, right or not, with rising numbers 10 apart.
func lists(most int, out []api.Held) [][]api.Held {
	all := [][]api.Held{nil}
	for from := 0; from < len(all); from++ {
		l := all[from]
		if len(l) == most {
			continue
		}
		for _, h := range out {
			h.ID = 10 * len(l)
			all = append(all, append(slices.Clip(l), h))
		}
	}
	return all
}

// small are lists, right or not, of few holdings: at the beginning of time, at its end, and in between.
func small() [][]api.Held {
	return slices.Concat(
		lists(3, holdings(spans(0, 1, 2), subsets(0, 1))),
		lists(2, holdings(spans(0, 5, api.Never-1, api.Never), subsets(3, 64, 255))),
		lists(3, holdings(spans(3, 4, 7, 9), [][]int{{2}, {2, 3}})),
	)
}

// few is a table of which holdings follow each other, stand side by side, and don't stand in the order of their spans.
func few() []api.Held {
	return []api.Held{
		hold(-3, 5, 9, 2, 3),
		hold(1, 0, 5, 2, 3, 200),
		hold(4, 0, 9, 0, 1, 4),
		hold(7, 9, api.Never, 0, 1, 2, 255),
		hold(9, 9, 12, 3),
		hold(10, 12, 13, 3, 4),
	}
}

// row is so many holdings side by side in time, one thing each, by numbers 2 apart.
func row(many int) []api.Held {
	var l []api.Held
	for n := range many {
		l = append(l, hold(2*n, 3, 8, n))
	}
	return l
}

// chain is so many holdings one behind the other, of all things each; the later ones have the lesser numbers.
func chain(many int) []api.Held {
	var l []api.Held
	for k := many; k > 0; k-- {
		l = append(l, hold(1000-2*k, int64(k)*5, int64(k)*5+5, every(func(int) bool { return true })...))
	}
	return l
}

// weave is so many holdings of which some meet in time and some in things, and none in both.
func weave(many int) []api.Held {
	var l []api.Held
	for k := range many {
		from := int64(k*37%many) / 8 * 3
		lot := k * 37 % many % 8
		l = append(l, hold(-7*(many-k), from, from+1+int64(lot%3), every(func(n int) bool { return n%8 == lot && n%5 != lot%4 })...))
	}
	return l
}

// mixed is so many holdings of 10 things, each of which is held again and again, with numbers that don't go by the times.
func mixed(many, seed int) []api.Held {
	var l []api.Held
	for id := range many {
		k := id * seed % 257 // a prime: no two are alike
		from := int64(k/10)*5 + int64(k%10%4)
		l = append(l, hold(id, from, from+1+int64(k*seed%5), k%10))
	}
	return l
}

// dice answers numbers below n, other ones each time, and of one seed always the same.
func dice(seed int) func(n int) int {
	next := uint32(seed)*2654435761 + 12345
	return func(n int) int {
		next = next*1664525 + 1013904223
		return int(next>>8) % n
	}
}

// strewn is a table of so many holdings that overlap in time, each of one of many things, in no order.
func strewn(many, things int, roll func(n int) int) []api.Held {
	next := make([]int64, things)
	var l []api.Held
	for range many {
		n := roll(things)
		from := next[n] + int64(roll(3))
		next[n] = from + 1 + int64(roll(40))
		l = append(l, hold(0, from, next[n], n))
	}
	for id := range l {
		k := id + roll(many-id)
		l[id], l[k] = l[k], l[id]
		l[id].ID = id
	}
	return l
}

// every is the set of the things of which yes says so.
func every(yes func(n int) bool) []int {
	var l []int
	for n := range 256 {
		if yes(n) {
			l = append(l, n)
		}
	}
	return l
}

// great are tables, from a few holdings up to as many as there may be.
func great() [][]api.Held {
	edges := []api.Held{
		hold(math.MinInt, 0, 1, 0), hold(math.MinInt+1, 1, api.Never-1, 0), hold(-1, api.Never-1, api.Never, 0),
		hold(0, 0, api.Never, 255), hold(math.MaxInt-1, 0, 2, 7), hold(math.MaxInt, 2, api.Never, 7),
	}
	return [][]api.Held{few(), edges, weave(40), row(255), row(256), chain(255), chain(256), weave(256), mixed(30, 100), mixed(200, 17), mixed(256, 3), mixed(256, 250)}
}

// tables are all of these lists that are tables.
func tables() [][]api.Held {
	return slices.DeleteFunc(append(small(), great()...), func(l []api.Held) bool { return !right(l) })
}

// wrongTimes are no times.
func wrongTimes() []int64 {
	return []int64{-1, -5, math.MinInt64, math.MinInt64 + 1, -api.Never, api.Never + 1, api.Never + 5, math.MaxInt64}
}

// wrongThings are no sets, or empty ones.
func wrongThings() [][]int {
	return [][]int{
		nil, {}, {-1}, {256}, {300}, {math.MinInt}, {math.MaxInt}, {1 << 32}, {240, 240}, {241, 240}, {240, 242, 241}, {240, 241, 241},
		{-1, 240}, {240, 256}, {256, 240}, {240, 241, 1 << 40}, append(every(func(int) bool { return true }), 256), make([]int, 300),
	}
}

// spoilt are holdings that may not be, each at one place only otherwise than h, which may.
func spoilt(h api.Held) []api.Held {
	var out []api.Held
	for _, things := range wrongThings() {
		out = append(out, hold(h.ID, h.From, h.To, things...))
	}
	for _, t := range wrongTimes() {
		out = append(out, hold(h.ID, t, h.To, h.Things...), hold(h.ID, h.From, t, h.Things...))
	}
	return append(out, hold(h.ID, h.To, h.To, h.Things...), hold(h.ID, h.From, h.From, h.Things...), hold(h.ID, h.To, h.From, h.Things...), hold(h.ID, -2, -1, h.Things...), hold(h.ID, api.Never+1, api.Never+2, h.Things...))
}

// wrong are lists that are no tables, most of them right but at one place.
func wrong() [][]api.Held {
	var out [][]api.Held
	for _, l := range [][]api.Held{few(), few()[:1], weave(40)} {
		for at := 0; at < len(l); at += 1 + len(l)/7 {
			for _, h := range spoilt(l[at]) {
				m := deep(l)
				m[at] = h
				out = append(out, m)
			}
		}
		for at := 1; at < len(l); at += 1 + len(l)/7 {
			same, down := deep(l), deep(l)
			same[at].ID = same[at-1].ID
			down[at].ID = down[at-1].ID - 1
			out = append(out, same, down)
		}
	}
	twice := deep(weave(256))
	twice[255].From, twice[255].To = 0, api.Never
	swapped := deep(row(256))
	swapped[254], swapped[255] = swapped[255], swapped[254]
	// 257 of which no two meet: only their number is wrong.
	out = append(out, twice, swapped, chain(257), chain(300), append(row(256), hold(512, 8, 9, 0)))
	return append(out, slices.DeleteFunc(small(), right)...)
}

// numbers are numbers of holdings of l, of those beside them, and others.
func numbers(l []api.Held) []int {
	out := []int{math.MinInt, math.MinInt + 1, -1, 0, 1, 5, 255, 256, math.MaxInt - 1, math.MaxInt}
	for at := 0; at < len(l); at += 1 + len(l)/7 {
		out = append(out, l[at].ID, l[at].ID-1, l[at].ID+1) // at the ends of int they go round, and are the others' ends
	}
	if len(l) > 0 {
		out = append(out, l[len(l)-1].ID)
	}
	return out
}

// moments are numbers at, about and far beyond the times of which l's holdings tell.
func moments(l []api.Held) []int64 {
	out := append(wrongTimes(), 0, 1, 2, api.Never-1, api.Never)
	for at := 0; at < len(l); at += 1 + len(l)/4 {
		for _, t := range []int64{l[at].From, l[at].To} {
			out = append(out, t-1, t, t+1)
		}
	}
	slices.Sort(out)
	return slices.Compact(out)
}
