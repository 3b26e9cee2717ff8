package pick_test

import (
	"cmp"
	"math"
	"slices"

	"bailiwick/api"
	"bailiwick/match"
)

// hold is a holding of a number, from and to a time, of things.
func hold(id int, from, to int64, things ...int) api.Held {
	return api.Held{ID: id, Things: things, From: from, To: to}
}

// deep is a copy of a list of holdings.
func deep(l []api.Held) []api.Held {
	var out []api.Held
	for _, h := range l {
		out = append(out, hold(h.ID, h.From, h.To, slices.Clone(h.Things)...))
	}
	return out
}

// alike says whether two holdings say the same.
func alike(a, b api.Held) bool {
	return a.ID == b.ID && a.From == b.From && a.To == b.To && slices.Equal(a.Things, b.Things)
}

// equal says whether two lists of holdings say the same.
func equal(a, b []api.Held) bool { return slices.EqualFunc(a, b, alike) }

// with are the holdings of several lists, by rising numbers.
func with(lists ...[]api.Held) []api.Held {
	l := deep(slices.Concat(lists...))
	slices.SortFunc(l, func(a, b api.Held) int { return cmp.Compare(a.ID, b.ID) })
	return l
}

// in says whether a time is in a span.
func in(t, from, to int64) bool { return from <= t && t < to }

// meet says whether a time is in both spans, of which neither is empty: if one is, the beginning of one of them is.
func meet(a, b, c, d int64) bool { return in(a, c, d) || in(c, a, b) }

// clash says whether two holdings hold a thing at one time.
func clash(a, b api.Held) bool {
	return meet(a.From, a.To, b.From, b.To) && slices.ContainsFunc(a.Things, func(n int) bool { return slices.Contains(b.Things, n) })
}

// apart says whether no two of these, each of which may be, clash, and no two have one number.
func apart(l []api.Held) bool {
	for k, h := range l {
		for _, o := range l[:k] {
			if o.ID == h.ID || clash(o, h) {
				return false
			}
		}
	}
	return true
}

// ask is all that a pick is given, but who would begin; its table is right, and use is a set.
type ask struct {
	g             []api.Thing
	use           []int
	l             []api.Held
	now, until    int64
	policy, depth int
}

// end is when a spec is over that begins at t, which is a time.
func end(s api.Spec, t int64) int64 { return min(t+s.Long, api.Never) }

// at is what a spec gets at t in a table, as chapter 13 tells it.
func (a ask) at(l []api.Held, s api.Spec, t int64) ([]int, bool) {
	if t < 0 || t >= api.Never || s.Long < 1 || s.Long > 1<<40 || end(s, t) > a.until {
		return nil, false
	}
	var busy [api.MaxThings]bool
	for _, h := range l {
		if meet(h.From, h.To, t, end(s, t)) {
			for _, n := range h.Things {
				busy[n] = true
			}
		}
	}
	var free []int
	for _, n := range a.use {
		if !busy[n] {
			free = append(free, n)
		}
	}
	return match.Find(a.g, free, s)
}

// first is its first slot in a table, from now on, as chapter 13 tells it.
func (a ask) first(l []api.Held, s api.Spec) (int64, []int, bool) {
	times := []int64{a.now}
	for _, h := range l {
		if h.To > a.now {
			times = append(times, h.To)
		}
	}
	slices.Sort(times)
	for _, t := range times {
		if things, ok := a.at(l, s, t); ok {
			return t, things, true
		}
	}
	return 0, nil, false
}

// picked is a pick as far as it has gone: who begins, who is kept, and the table; shut, if nobody behind begins.
type picked struct {
	begin, kept, l []api.Held
	shut           bool
}

// pick is who begins and who is kept, as the document tells it; the policy and the depth may be.
func (a ask) pick(list []api.Want) ([]api.Held, []api.Held, api.Errno) {
	p := picked{l: deep(a.l)}
	for _, w := range list {
		if e := p.step(a, w); e != api.OK {
			return nil, nil, e
		}
	}
	return p.begin, p.kept, api.OK
}

// step goes on with one more who would begin.
func (p *picked) step(a ask, w api.Want) api.Errno {
	t, things, ok := a.first(p.l, w.Spec)
	if !ok || p.shut {
		return api.OK
	}
	h := hold(w.ID, t, end(w.Spec, t), things...)
	if t == a.now {
		p.begin = append(p.begin, h)
		return p.add(h)
	}
	if a.policy == 1 {
		p.shut = true
	}
	if a.policy == 2 && len(p.kept) == 0 || a.policy == 3 && len(p.kept) < a.depth {
		p.kept = append(p.kept, h)
		return p.add(h)
	}
	return api.OK
}

// add puts a holding that clashes with none into the table.
func (p *picked) add(h api.Held) api.Errno {
	if slices.ContainsFunc(p.l, func(o api.Held) bool { return o.ID == h.ID }) {
		return api.ErrTwice
	}
	if len(p.l) == 256 {
		return api.ErrFull
	}
	p.l = with(p.l, []api.Held{h})
	return api.OK
}

// site is a node of two cores and one of a core and a gpu.
func site() []api.Thing {
	return []api.Thing{
		{Kind: api.Cluster, Up: -1},
		{Kind: api.Node, Tag: "a"},
		{Kind: api.Core, Up: 1},
		{Kind: api.Core, Up: 1},
		{Kind: api.Node},
		{Kind: api.Core, Up: 4},
		{Kind: api.Gpu, Up: 4},
	}
}

// siteUses are sets of which some are all that site has, more than that, and less.
func siteUses() [][]int {
	return [][]int{span(0, 6), span(1, 255), {1, 2, 3}, {1, 2, 4, 5, 6}, nil}
}

// siteSpecs are specs that site could have, and two that it couldn't.
func siteSpecs() []api.Spec {
	return []api.Spec{
		{Nodes: 1, Cores: 1, Long: 1}, {Nodes: 1, Cores: 2, Long: 2}, {Nodes: 2, Cores: 1, Long: 3}, {Nodes: 1, Cores: 1, Long: 6}, {Nodes: 1, Gpus: 1, Long: 2},
		{Nodes: 1, Whole: true, Long: 2}, {Nodes: 2, Whole: true, Long: 1}, {Nodes: 1, Cores: 1, Tag: "a", Long: 4, Prio: 9}, {Nodes: 1, Cores: 1, Long: 1 << 40},
		{Nodes: 1, Cores: 3, Long: 1}, {Nodes: 1, Cores: 1, Tag: "b", Long: 1},
	}
}

// noSpecs may not be: each is one that site could have, but at one place.
func noSpecs() []api.Spec {
	return []api.Spec{
		{}, {Nodes: 1, Long: 1}, {Cores: 1, Long: 1}, {Nodes: -1, Cores: 1, Long: 1}, {Nodes: 65, Cores: 1, Long: 1}, {Nodes: 1, Cores: -1, Long: 1}, {Nodes: 1, Cores: 1, Gpus: -1, Long: 1},
		{Nodes: 1, Cores: 1}, {Nodes: 1, Cores: 1, Long: -1}, {Nodes: 1, Cores: 1, Long: 1<<40 + 1}, {Nodes: 1, Cores: 1, Long: math.MaxInt64}, {Nodes: 1, Cores: 1, Long: 1, Prio: 1001}, {Nodes: 1, Cores: 1, Tag: "A", Long: 1},
	}
}

// noSets are lists that are no sets, of the things of site.
func noSets() [][]int {
	return [][]int{{0, 1, 2, 3, 3, 4, 5, 6}, {6, 5, 4, 3, 2, 1, 0}, {1, 2, 3, 4, 5, 6, 256}, {-1, 1, 2, 3, 4, 5, 6}}
}

// noGraphs are lists that are no graphs, with nodes that would suit.
func noGraphs() [][]api.Thing {
	loose, tagged := site(), site()
	loose[6].Up = 6
	tagged[2].Tag = "a"
	return [][]api.Thing{nil, site()[1:], loose, tagged}
}

// noTables are lists that aren't right, most of them at one place only, in which something would fit.
func noTables() [][]api.Held {
	l := []api.Held{hold(2, 0, 5, 2), hold(4, 4, 8, 5)}
	out := [][]api.Held{{l[1], l[0]}, {l[0], l[0]}, {l[0], hold(2, 6, 7, 3)}, {l[0], hold(4, 4, 8, 2, 5)}, row(257)}
	for _, bad := range []api.Held{
		hold(4, 4, 8), hold(4, 8, 4, 5), hold(4, 4, 4, 5), hold(4, -1, 8, 5), hold(4, 4, api.Never+1, 5), hold(4, 4, 8, 5, 5), hold(4, 4, 8, 6, 5), hold(4, 4, 8, 256), hold(4, 4, 8, -1),
	} {
		out = append(out, []api.Held{l[0], bad}, []api.Held{bad})
	}
	return out
}

// row is so many holdings of even numbers from 0 on, one behind the other, of one thing that site has.
func row(many int) []api.Held {
	var l []api.Held
	for k := range many {
		l = append(l, hold(2*k, int64(many-k)*3, int64(many-k)*3+2, 5))
	}
	return l
}

// span is all from first up to last.
func span(first, last int) []int {
	var l []int
	for n := first; n <= last; n++ {
		l = append(l, n)
	}
	return l
}

// lists are all tables of up to so many holdings between these times and of these sets, with numbers 10 apart.
func lists(upTo int, times []int64, sets ...[]int) [][]api.Held {
	all := [][]api.Held{nil}
	for at := 0; at < len(all); at++ {
		if len(all[at]) == upTo {
			continue
		}
		for i, from := range times {
			for _, to := range times[i+1:] {
				for _, things := range sets {
					l := append(slices.Clip(all[at]), hold(10*len(all[at]), from, to, things...))
					if apart(l) {
						all = append(all, l)
					}
				}
			}
		}
	}
	return all
}

// siteTables are tables of few holdings of site's things: at the beginning of time, at its end, and in between.
func siteTables() [][]api.Held {
	return slices.Concat(
		lists(2, []int64{0, 2, 3, 5}, []int{2}, []int{2, 3}, []int{1, 2, 3}, []int{5}, []int{4, 6}),
		lists(2, []int64{0, 5, api.Never - 2, api.Never - 1, api.Never}, []int{2, 3}, []int{3, 5, 6}),
	)
}

// wants are those who would begin with these specs, with numbers that aren't those of lists' tables and don't rise.
func wants(specs ...api.Spec) []api.Want {
	var list []api.Want
	for k, s := range specs {
		list = append(list, api.Want{ID: 5 + k*7%16*10, Spec: s})
	}
	return list
}

// dice answers numbers below n, other ones each time, and of one seed always the same.
func dice(seed int) func(n int) int {
	next := uint32(seed)*2654435761 + 12345
	return func(n int) int {
		next = next*1664525 + 1013904223
		return int(next>>8) % n
	}
}

// farm is a graph of as many things as there may be: nodes of 1 to 9 cores and gpus, of which each second has a tag.
func farm() []api.Thing {
	g := []api.Thing{{Kind: api.Cluster, Up: -1}}
	for len(g) < api.MaxThings {
		node := len(g)
		x := api.Thing{Kind: api.Node}
		if node%2 == 1 {
			x.Tag = "b"
		}
		g = append(g, x)
		for k := range node*7%9 + 1 {
			if len(g) < api.MaxThings {
				g = append(g, api.Thing{Kind: api.Core + k*node%2, Up: node})
			}
		}
	}
	return g
}

// strewn is a table of so many holdings of farm's things, one to five each, that overlap in time, in no order.
func strewn(many int, roll func(n int) int) []api.Held {
	var next [api.MaxThings]int64
	var l []api.Held
	for range many {
		first := roll(api.MaxThings - 5)
		things := span(first, first+roll(5))
		from := int64(roll(4))
		for _, n := range things {
			from = max(from, next[n])
		}
		to := from + 1 + int64(roll(30))
		for _, n := range things {
			next[n] = to
		}
		l = append(l, hold(0, from, to, things...))
	}
	for k := range l {
		o := k + roll(many-k)
		l[k], l[o] = l[o], l[k]
		l[k].ID = 3*k - many
	}
	return l
}

// anySpec is a spec that farm may have at some time, or mostly could.
func anySpec(roll func(n int) int) api.Spec {
	s := api.Spec{Nodes: 1 + roll(8), Cores: roll(4), Gpus: max(0, roll(4)-1), Whole: roll(8) == 0, Long: int64(1 + roll(25)), Prio: roll(9) - 4}
	if s.Cores+s.Gpus == 0 && !s.Whole {
		s.Cores = 1
	}
	if roll(4) == 0 {
		s.Tag = "b"
	}
	return s
}

// every tells of asks of site with some who would begin: of some tables all lists of up to four of a few specs, with all policies.
func every(tell func(a ask, list []api.Want)) {
	specs := []api.Spec{{Nodes: 1, Cores: 1, Long: 2}, {Nodes: 1, Cores: 2, Long: 3}, {Nodes: 2, Cores: 1, Long: 4}, {Nodes: 1, Cores: 1, Long: 9}, {Nodes: 1, Cores: 3, Long: 1}}
	tables := [][]api.Held{nil, {hold(1, 0, 4, 2)}, {hold(1, 0, 4, 2), hold(2, 3, 6, 5)}, {hold(1, 0, 3, 2, 3), hold(2, 0, 5, 5)}}
	queues := [][]api.Spec{nil}
	for at := 0; at < len(queues); at++ {
		for _, s := range specs {
			if len(queues[at]) < 4 {
				queues = append(queues, append(slices.Clip(queues[at]), s))
			}
		}
	}
	for _, l := range tables {
		for _, q := range queues {
			for _, p := range [][2]int{{1, 0}, {2, 0}, {3, 0}, {3, 1}, {3, 2}, {3, 64}} {
				tell(ask{site(), span(0, 6), l, 1, api.Never, p[0], p[1]}, wants(q...))
			}
		}
	}
}

// small tells of asks of site: all small tables, each with some lists, uses, times, policies and depths.
func small(tell func(a ask, list []api.Want)) {
	specs, uses := siteSpecs(), siteUses()
	nows := []int64{0, 1, 0, 2, 3, 1, 4, 5, api.Never - 3, -1, api.Never - 1, math.MinInt64, api.Never, math.MaxInt64}
	untils := []int64{api.Never, api.Never, 9, 7, 5, api.Never - 1, math.MaxInt64, 2, 0, -1, math.MinInt64}
	roll := dice(14)
	for k, l := range siteTables() {
		for policy := 1; policy <= 3; policy++ {
			for try := range 6 {
				list := wants(specs[(k+try)%len(specs)], specs[roll(len(specs))], specs[roll(len(specs))], specs[roll(len(specs))], specs[roll(len(specs))])
				if try == 5 {
					list[roll(5)].ID = roll(5) * 5 // it may be there, or another one's
				}
				a := ask{site(), uses[0], l, nows[roll(6)], api.Never, policy, roll(5)}
				if try > 2 {
					a.use, a.now, a.until, a.depth = uses[roll(len(uses))], nows[roll(len(nows))], untils[roll(len(untils))], roll(65)
				}
				tell(a, list)
			}
		}
	}
}

// great tells of asks of farm, of tables of up to as many holdings as there may be, and many who would begin; some have numbers that are there.
func great(tell func(a ask, list []api.Want)) {
	for seed := range 72 {
		roll := dice(seed)
		a := ask{farm(), span(0, 255), strewn([]int{0, 3, 20, 90, 250, 256}[seed%6], roll), int64(roll(30)), api.Never, 1 + seed/6%3, roll(9)}
		if roll(3) == 0 {
			a.use = slices.DeleteFunc(a.use, func(int) bool { return roll(12) == 0 })
		}
		if roll(4) == 0 {
			a.until = int64(40 + roll(150))
		}
		var list []api.Want
		for k := range roll(24) {
			list = append(list, api.Want{ID: 1000 - 2*k, Spec: anySpec(roll)})
		}
		if len(list) > 4 && roll(6) == 0 {
			list[4].ID = list[roll(4)].ID
		}
		tell(a, list)
	}
}
