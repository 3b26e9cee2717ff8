package slot_test

import (
	"math"
	"slices"

	"bailiwick/api"
	"bailiwick/match"
)

// hold is a holding of a number, from and to a time, of things.
func hold(id int, from, to int64, things ...int) api.Held {
	return api.Held{ID: id, Things: things, From: from, To: to}
}

// deep is a copy of a list of holdings.
func deep(l []api.Held) []api.Held {
	var out []api.Held
	for _, h := range l {
		out = append(out, hold(h.ID, h.From, h.To, slices.Clone(h.Things)...))
	}
	return out
}

// equal says whether two lists of holdings say the same.
func equal(a, b []api.Held) bool {
	return slices.EqualFunc(a, b, func(a, b api.Held) bool {
		return a.ID == b.ID && a.From == b.From && a.To == b.To && slices.Equal(a.Things, b.Things)
	})
}

// in says whether a time is in a span.
func in(t, from, to int64) bool { return from <= t && t < to }

// meet says whether a time is in both spans, of which neither is empty: if one is, the beginning of one of them is.
func meet(a, b, c, d int64) bool { return in(a, c, d) || in(c, a, b) }

// clash says whether two holdings hold a thing at one time.
func clash(a, b api.Held) bool {
	return meet(a.From, a.To, b.From, b.To) && slices.ContainsFunc(a.Things, func(n int) bool { return slices.Contains(b.Things, n) })
}

// apart says whether no two of these, each of which may be, clash, and no two have one number.
func apart(l []api.Held) bool {
	for k, h := range l {
		for _, o := range l[:k] {
			if o.ID == h.ID || clash(o, h) {
				return false
			}
		}
	}
	return true
}

// ask is all that the layer's calls are given, but the time; its table is right, and use is a set.
type ask struct {
	g     []api.Thing
	use   []int
	l     []api.Held
	s     api.Spec
	until int64
}

// holders says of each thing how many hold it at a time of a span.
func (a ask) holders(from, to int64) [256]int {
	var many [256]int
	for _, h := range a.l {
		if meet(h.From, h.To, from, to) {
			for _, n := range h.Things {
				many[n]++
			}
		}
	}
	return many
}

// end is when it is over, if it begins at t, which is a time.
func (a ask) end(t int64) int64 { return min(t+a.s.Long, api.Never) }

// at is what it gets at t, as the document tells it.
func (a ask) at(t int64) ([]int, bool) {
	if t < 0 || t >= api.Never || a.s.Long < 1 || a.s.Long > 1<<40 || a.end(t) > a.until {
		return nil, false
	}
	holders := a.holders(t, a.end(t))
	var free []int
	for _, n := range a.use {
		if holders[n] == 0 {
			free = append(free, n)
		}
	}
	return match.Find(a.g, free, a.s)
}

// times are those that count, as the document tells them.
func (a ask) times(from int64) []int64 {
	out := []int64{from}
	for _, h := range a.l {
		if h.To > from {
			out = append(out, h.To)
		}
	}
	slices.Sort(out)
	return out
}

// first is its first slot, as the document tells it.
func (a ask) first(from int64) (int64, []int, bool) {
	for _, t := range a.times(from) {
		if things, ok := a.at(t); ok {
			return t, things, true
		}
	}
	return 0, nil, false
}

// plan is what is planned for these, as the document tells it; what it asks for itself doesn't count.
func (a ask) plan(list []api.Want, from int64) ([]api.Held, api.Errno) {
	before := a.l
	a.l = deep(a.l)
	for _, w := range list {
		a.s = w.Spec
		t, things, ok := a.first(from)
		if !ok {
			continue
		}
		if slices.ContainsFunc(a.l, func(h api.Held) bool { return h.ID == w.ID }) {
			return before, api.ErrTwice
		}
		if len(a.l) == 256 {
			return before, api.ErrFull
		}
		at := 0
		for at < len(a.l) && a.l[at].ID < w.ID {
			at++
		}
		a.l = slices.Insert(a.l, at, hold(w.ID, t, a.end(t), things...))
	}
	return a.l, api.OK
}

// site is a node of two cores and one of a core and a gpu.
func site() []api.Thing {
	return []api.Thing{
		{Kind: api.Cluster, Up: -1},
		{Kind: api.Node, Tag: "a"},
		{Kind: api.Core, Up: 1},
		{Kind: api.Core, Up: 1},
		{Kind: api.Node},
		{Kind: api.Core, Up: 4},
		{Kind: api.Gpu, Up: 4},
	}
}

// siteUses are sets of which some are all that site has, more than that, and less.
func siteUses() [][]int {
	return [][]int{span(0, 6), span(1, 6), span(0, 255), {1, 2, 4, 5, 6}, {1, 2, 3}, {2, 3, 4, 5, 6}, {0, 1, 3, 4, 6, 200}, nil}
}

// siteSpecs are specs that site could have, and some that it couldn't.
func siteSpecs() []api.Spec {
	return []api.Spec{
		{Nodes: 1, Cores: 1, Long: 1}, {Nodes: 1, Cores: 2, Long: 2}, {Nodes: 2, Cores: 1, Long: 3}, {Nodes: 1, Gpus: 1, Long: 2}, {Nodes: 1, Cores: 1, Gpus: 1, Long: 1},
		{Nodes: 1, Whole: true, Long: 2}, {Nodes: 2, Whole: true, Long: 1}, {Nodes: 1, Cores: 1, Tag: "a", Long: 4}, {Nodes: 1, Cores: 1, Long: 1 << 40, Prio: 1000},
		{Nodes: 1, Cores: 3, Long: 1}, {Nodes: 3, Cores: 1, Long: 1}, {Nodes: 1, Whole: true, Tag: "b", Long: 1},
	}
}

// noSpecs may not be: each is one that site could have, but at one place.
func noSpecs() []api.Spec {
	return []api.Spec{
		{}, {Nodes: 1, Long: 1}, {Nodes: 0, Cores: 1, Long: 1}, {Nodes: -1, Cores: 1, Long: 1}, {Nodes: 65, Cores: 1, Long: 1}, {Nodes: 1, Cores: -1, Long: 1}, {Nodes: 1, Cores: 1, Gpus: -1, Long: 1},
		{Nodes: 1, Cores: 1}, {Nodes: 1, Cores: 1, Long: -1}, {Nodes: 1, Cores: 1, Long: math.MinInt64}, {Nodes: 1, Cores: 1, Long: 1<<40 + 1}, {Nodes: 1, Cores: 1, Long: math.MaxInt64},
		{Nodes: 1, Cores: 1, Long: 1, Prio: 1001}, {Nodes: 1, Cores: 1, Long: 1, Prio: -1001}, {Nodes: 1, Cores: 1, Tag: "A", Long: 1}, {Nodes: 1, Cores: 1, Tag: "aaaaaaaaaaaaaaaaa", Long: 1},
	}
}

// noSets are lists that are no sets, of the things of site: some are, once what is busy is gone, or what stands twice.
func noSets() [][]int {
	return [][]int{{0, 1, 2, 3, 3, 4, 5, 6}, {6, 5, 4, 3, 2, 1, 0}, {2, 1, 3, 4, 5, 6}, {1, 2, 3, 4, 5, 6, 256}, {-1, 1, 2, 3, 4, 5, 6}, {1, 2, 3, 4, 5, 6, math.MaxInt}, {1, 1, 2, 3}, append(span(0, 255), 0)}
}

// noGraphs are lists that are no graphs, with nodes that would suit.
func noGraphs() [][]api.Thing {
	long := site()
	for len(long) <= 256 {
		long = append(long, api.Thing{Kind: api.Core, Up: 4})
	}
	loose, tagged, two := site(), site(), site()
	loose[6].Up = 6
	tagged[2].Tag = "a"
	two[4] = two[0]
	return [][]api.Thing{nil, {}, site()[1:], long, loose, tagged, two}
}

// span is all from first up to last.
func span(first, last int) []int {
	var l []int
	for n := first; n <= last; n++ {
		l = append(l, n)
	}
	return l
}

// lists are all tables of up to so many holdings between these times and of these sets, with numbers 10 apart that don't go by what is held.
func lists(upTo int, times []int64, sets ...[]int) [][]api.Held {
	all := [][]api.Held{nil}
	for at := 0; at < len(all); at++ {
		if len(all[at]) == upTo {
			continue
		}
		for i, from := range times {
			for _, to := range times[i+1:] {
				for _, things := range sets {
					l := append(slices.Clip(all[at]), hold(10*len(all[at]), from, to, things...))
					if apart(l) {
						all = append(all, l)
					}
				}
			}
		}
	}
	return all
}

// siteTables are tables of few holdings of site's things: at the beginning of time, at its end, and in between.
func siteTables() [][]api.Held {
	return slices.Concat(
		lists(2, []int64{0, 2, 3, 5}, []int{2}, []int{2, 3}, []int{1, 2, 3}, []int{5}, []int{4, 6}),
		lists(3, []int64{1, 4, 6}, []int{2}, []int{2, 3, 5, 6}, []int{5, 200}),
		lists(2, []int64{0, 5, api.Never - 2, api.Never - 1, api.Never}, []int{2, 3}, []int{3, 5, 6}),
	)
}

// noTables are lists that aren't right, most of them at one place only, in which something would fit.
func noTables() [][]api.Held {
	l := []api.Held{hold(2, 0, 5, 2), hold(4, 4, 8, 5)}
	out := [][]api.Held{{l[1], l[0]}, {l[0], l[0]}, {l[0], hold(2, 6, 7, 3)}, {l[0], hold(4, 4, 8, 2, 5)}, {l[0], hold(4, 0, 1, 2)}}
	for _, bad := range []api.Held{
		hold(4, 4, 8), hold(4, 8, 4, 5), hold(4, 4, 4, 5), hold(4, -1, 8, 5), hold(4, 4, api.Never+1, 5), hold(4, 4, 8, 5, 5), hold(4, 4, 8, 6, 5), hold(4, 4, 8, 256), hold(4, 4, 8, -1),
	} {
		out = append(out, []api.Held{l[0], bad}, []api.Held{bad})
	}
	return append(out, row(257))
}

// row is so many holdings one behind the other, of one thing that site has.
func row(many int) []api.Held {
	var l []api.Held
	for k := range many {
		l = append(l, hold(2*k, int64(many-k)*3, int64(many-k)*3+2, 5))
	}
	return l
}

// moments are numbers at, about and far beyond the times of which a table tells.
func moments(l []api.Held) []int64 {
	out := []int64{math.MinInt64, -api.Never, -1, 0, 1, api.Never - 1, api.Never, api.Never + 1, math.MaxInt64}
	for k := 0; k < len(l); k += 1 + len(l)/6 {
		for _, t := range []int64{l[k].From, l[k].To} {
			out = append(out, t-1, t, t+1)
		}
	}
	slices.Sort(out)
	return slices.Compact(out)
}

// small tells of asks of site: all specs with all tables, each with some uses and untils.
func small(tell func(a ask)) {
	uses := siteUses()
	untils := []int64{api.Never, 9, 7, 5, api.Never - 1, 2, math.MaxInt64, 0, -1, math.MinInt64, api.Never + 1}
	for k, l := range siteTables() {
		for i, s := range siteSpecs() {
			tell(ask{site(), uses[0], l, s, api.Never})
			tell(ask{site(), uses[(k+i)%len(uses)], l, s, untils[k*5%len(untils)]})
		}
	}
}

// dice answers numbers below n, other ones each time, and of one seed always the same.
func dice(seed int) func(n int) int {
	next := uint32(seed)*2654435761 + 12345
	return func(n int) int {
		next = next*1664525 + 1013904223
		return int(next>>8) % n
	}
}

// farm is a graph of as many things as there may be: nodes of 1 to 9 cores and gpus, of which each second has a tag.
func farm() []api.Thing {
	g := []api.Thing{{Kind: api.Cluster, Up: -1}}
	for len(g) < api.MaxThings {
		node := len(g)
		x := api.Thing{Kind: api.Node}
		if node%2 == 1 {
			x.Tag = "b"
		}
		g = append(g, x)
		for k := range node*7%9 + 1 {
			if len(g) < api.MaxThings {
				g = append(g, api.Thing{Kind: api.Core + k*node%2, Up: node})
			}
		}
	}
	return g
}

// strewn is a table of so many holdings of farm's things, one to five each, that overlap in time, in no order.
func strewn(many int, roll func(n int) int) []api.Held {
	var next [api.MaxThings]int64
	var l []api.Held
	for range many {
		first := roll(api.MaxThings - 5)
		things := span(first, first+roll(5))
		from := int64(roll(4))
		for _, n := range things {
			from = max(from, next[n])
		}
		to := from + 1 + int64(roll(30))
		for _, n := range things {
			next[n] = to
		}
		l = append(l, hold(0, from, to, things...))
	}
	for k := range l {
		o := k + roll(many-k)
		l[k], l[o] = l[o], l[k]
		l[k].ID = 3*k - many
	}
	return l
}

// anySpec is a spec that farm may have at some time, or mostly could.
func anySpec(roll func(n int) int) api.Spec {
	s := api.Spec{Nodes: 1 + roll(30), Cores: roll(4), Gpus: roll(3), Whole: roll(4) == 0, Long: int64(1 + roll(25)), Prio: roll(9) - 4}
	if s.Cores+s.Gpus == 0 && !s.Whole {
		s.Cores = 1
	}
	if roll(4) == 0 {
		s.Tag = "b"
	}
	return s
}

// great tells of asks of farm, of tables of up to as many holdings as there may be, and of a dice for what else is asked.
func great(tell func(a ask, roll func(n int) int)) {
	for seed := range 72 {
		roll := dice(seed)
		a := ask{farm(), span(0, 255), strewn([]int{0, 3, 20, 90, 255, 256}[seed%6], roll), anySpec(roll), api.Never}
		if roll(3) == 0 {
			a.use = slices.DeleteFunc(a.use, func(int) bool { return roll(12) == 0 })
		}
		if roll(4) == 0 {
			a.until = int64(20 + roll(150))
		}
		tell(a, roll)
	}
}
