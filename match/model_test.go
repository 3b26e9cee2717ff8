package match_test

import (
	"math"
	"slices"
	"strings"

	"bailiwick/api"
)

// cluster is a cluster alone.
func cluster() []api.Thing { return []api.Thing{{Kind: api.Cluster, Up: -1}} }

// plus is a graph with some things more, in memory of its own.
func plus(g []api.Thing, more ...api.Thing) []api.Thing { return append(slices.Clone(g), more...) }

// sample has racks, nodes outside of them, a node without a thing, and parts that don't stand side by side: the first node's last one is behind all of the second's.
func sample() []api.Thing {
	return []api.Thing{
		{Kind: api.Cluster, Up: -1},
		{Kind: api.Rack, Up: 0},
		{Kind: api.Node, Up: 1, Tag: "a"},
		{Kind: api.Node, Up: 0, Tag: "b"},
		{Kind: api.Core, Up: 3},
		{Kind: api.Core, Up: 2},
		{Kind: api.Gpu, Up: 3},
		{Kind: api.Rack, Up: 0},
		{Kind: api.Node, Up: 7},
		{Kind: api.Gpu, Up: 2},
		{Kind: api.Core, Up: 3},
		{Kind: api.Node, Up: 1, Tag: "a"},
		{Kind: api.Core, Up: 11},
		{Kind: api.Core, Up: 2},
		{Kind: api.Gpu, Up: 11},
		{Kind: api.Gpu, Up: 11},
	}
}

// kindsUnder are the kinds of things that may be part of one of that kind.
func kindsUnder(kind int) []int {
	switch kind {
	case api.Cluster:
		return []int{api.Rack, api.Node}
	case api.Rack:
		return []int{api.Node}
	case api.Node:
		return []int{api.Core, api.Gpu}
	}
	return nil
}

// grown are all graphs of up to so many things, with tags that aren't the same for all nodes.
func grown(upTo int) [][]api.Thing {
	out := [][]api.Thing{cluster()}
	for from := 0; from < len(out); from++ {
		g := out[from]
		if len(g) == upTo {
			continue
		}
		for up, x := range g {
			for _, kind := range kindsUnder(x.Kind) {
				x := api.Thing{Kind: kind, Up: up}
				if kind == api.Node {
					x.Tag = tags()[(len(g)+up)%3]
				}
				out = append(out, plus(g, x))
			}
		}
	}
	return out
}

// full is a graph of as many things as there may be: sample, and some more of each kind.
func full() []api.Thing {
	g := sample()
	for len(g) < api.MaxThings {
		up := len(g) * len(g) % 13 // not always the same, and not always the last
		for len(kindsUnder(g[up].Kind)) == 0 {
			up--
		}
		kinds := kindsUnder(g[up].Kind)
		g = append(g, api.Thing{Kind: kinds[len(g)%len(kinds)], Up: up})
	}
	return g
}

// row is a graph of so many nodes alike, each of so many cores and gpus, side by side.
func row(nodes, cores, gpus int) []api.Thing {
	g := cluster()
	for range nodes {
		node := len(g)
		g = append(g, api.Thing{Kind: api.Node})
		for range cores {
			g = append(g, api.Thing{Kind: api.Core, Up: node})
		}
		for range gpus {
			g = append(g, api.Thing{Kind: api.Gpu, Up: node})
		}
	}
	return g
}

// great are graphs about the bounds of what a spec may ask for, and of what a graph may have.
func great() [][]api.Thing {
	return [][]api.Thing{
		row(63, 1, 1), row(64, 1, 1), row(65, 1, 1), row(255, 0, 0), row(1, 254, 0), row(1, 0, 254),
		row(1, 63, 64), row(1, 64, 63), row(1, 64, 64), row(1, 65, 65), row(3, 64, 0), row(2, 63, 63), row(51, 3, 1), full()[:255],
	}
}

// wrong are lists of things that are no graphs, most of them with nodes that would suit.
func wrong() [][]api.Thing {
	out := [][]api.Thing{
		nil, {},
		make([]api.Thing, 300),
		plus(full(), api.Thing{Kind: api.Rack}),
		plus(row(255, 0, 0), api.Thing{Kind: api.Node}),
		sample()[1:],
		plus(row(2, 2, 2), cluster()...),
	}
	for n := range sample() {
		for _, x := range spoilt(sample()[n], n) {
			g := sample()
			g[n] = x
			out = append(out, g)
		}
	}
	return out
}

// spoilt are things that may not stand at place n of sample instead of x.
func spoilt(x api.Thing, n int) []api.Thing {
	var out []api.Thing
	for _, kind := range []int{-1, 5, 6, math.MaxInt, math.MinInt, 1 << 32} {
		out = append(out, api.Thing{Kind: kind, Up: x.Up, Tag: x.Tag})
	}
	for _, up := range []int{-2, n, n + 1, 255, 256, math.MaxInt, math.MinInt, 1 << 32} {
		out = append(out, api.Thing{Kind: x.Kind, Up: up, Tag: x.Tag})
	}
	out = append(out, api.Thing{Kind: x.Kind, Up: x.Up, Tag: "A"}, api.Thing{Kind: x.Kind, Up: x.Up, Tag: "abcdefghijklmnopq"})
	if x.Kind != api.Node {
		out = append(out, api.Thing{Kind: x.Kind, Up: x.Up, Tag: "a"})
	}
	if x.Kind != api.Cluster {
		return append(out, api.Thing{Kind: x.Kind, Up: -1}, api.Thing{Kind: api.Cluster, Up: -1}, api.Thing{Kind: api.Cluster})
	}
	return append(out, api.Thing{Kind: api.Node, Up: -1}, api.Thing{Kind: api.Rack, Up: -1})
}

// all are all numbers of things of g.
func all(g []api.Thing) []int {
	return pick(len(g), func(int) bool { return true })
}

// frees are some sets of free things of g: all there are, of a small one, and few of a great one.
func frees(g []api.Thing) [][]int {
	var out [][]int
	if len(g) > 100 {
		return [][]int{nil, all(g), without(all(g), 1), without(all(g), len(g)/2), all(g)[:len(g)-1], pick(len(g), func(n int) bool { return n%9 != 4 }), pick(len(g), func(n int) bool { return g[n].Kind != api.Gpu })}
	}
	if len(g) <= 5 {
		for bits := range 1 << len(g) {
			out = append(out, pick(len(g), func(n int) bool { return bits>>n&1 == 1 }))
		}
		return out
	}
	out = append(out, nil, all(g), all(g)[1:], all(g)[:len(g)-1])
	for _, kind := range []int{api.Cluster, api.Rack, api.Node, api.Core, api.Gpu} {
		out = append(out, pick(len(g), func(n int) bool { return g[n].Kind != kind }), pick(len(g), func(n int) bool { return g[n].Kind == kind }))
	}
	for n := 0; n < len(g); n++ {
		out = append(out, without(all(g), n))
	}
	for seed := 1; seed < 20; seed++ {
		out = append(out, pick(len(g), func(n int) bool { return (n*n+n*seed)%(seed+2) != seed/2 }))
	}
	return out
}

// beyond are sets of numbers that no thing of g has.
func beyond(g []api.Thing) [][]int {
	none := func(n int) bool { return n >= len(g) }
	out := [][]int{nil, pick(256, none), pick(256, func(n int) bool { return none(n) && n%2 == 1 })}
	if len(g) < 256 {
		out = append(out, []int{len(g)}, []int{255})
	}
	return out
}

// noSets are lists that are no sets, of the things of g and of others.
func noSets(g []api.Thing) [][]int {
	l := all(g)
	down := slices.Clone(l)
	slices.Reverse(down)
	out := [][]int{
		append(slices.Clone(l), l[len(l)-1]), append(slices.Clone(l), 0), append(slices.Clone(l), 256), append(slices.Clone(l), math.MaxInt), append(slices.Clone(l), 1<<32), append(slices.Clone(l), -1),
		append([]int{0}, l...), append([]int{-1}, l...), append([]int{math.MinInt}, l...), append(slices.Clone(l), l...),
		{-1}, {256}, {0, 0}, {1, 1}, {2, 1}, append(pick(256, func(int) bool { return true }), 256),
	}
	if len(l) > 1 {
		out = append(out, down, append(l[1:len(l):len(l)], 0))
	}
	return out
}

// tags are tags of nodes of these graphs, one that no node has among them.
func tags() []string { return []string{"", "a", "b", "c"} }

// specs are specs that may be: all there are, of so many nodes, cores and gpus at most, and these tags.
func specs(nodes, cores, gpus int, tags ...string) []api.Spec {
	var out []api.Spec
	for n := range nodes {
		for c := range cores + 1 {
			for g := range gpus + 1 {
				for _, tag := range tags {
					out = append(out, api.Spec{Nodes: n + 1, Cores: c, Gpus: g, Tag: tag, Whole: true, Long: 1})
					if c+g > 0 {
						out = append(out, api.Spec{Nodes: n + 1, Cores: c, Gpus: g, Tag: tag, Long: 1})
					}
				}
			}
		}
	}
	return out
}

// greatSpecs are about the bounds of what a spec may ask for.
func greatSpecs() []api.Spec {
	var out []api.Spec
	for _, n := range []int{1, 2, 3, 51, 63, 64} {
		for _, c := range []int{0, 1, 3, 64} {
			for _, g := range []int{0, 1, 64} {
				out = append(out, api.Spec{Nodes: n, Cores: c, Gpus: g, Whole: true, Long: 1 << 40, Prio: 1000})
				if c+g > 0 {
					out = append(out, api.Spec{Nodes: n, Cores: c, Gpus: g, Long: 1, Prio: -1000})
				}
			}
		}
	}
	return out
}

// noSpecs may not be: each is one that may be, but at one place.
func noSpecs() []api.Spec {
	var out []api.Spec
	for _, s := range []api.Spec{{Nodes: 1, Cores: 1, Long: 1}, {Nodes: 1, Gpus: 1, Long: 1}, {Nodes: 1, Whole: true, Long: 1}, {Nodes: 2, Cores: 1, Gpus: 1, Whole: true, Long: 5, Prio: 7}} {
		for _, n := range []int{math.MinInt, -1 << 32, -64, -2, -1, 0, 65, 66, 1 << 32, 1<<32 + 1, math.MaxInt} {
			x := s
			x.Nodes = n
			out = append(out, x)
		}
		for _, n := range []int{math.MinInt, -1 << 32, -64, -2, -1, 65, 66, 1 << 32, 1<<32 + 1, math.MaxInt} {
			x, y := s, s
			x.Cores, y.Gpus = n, n
			out = append(out, x, y)
		}
		for _, long := range []int64{math.MinInt64, -1, 0, 1<<40 + 1, api.Never, math.MaxInt64} {
			x := s
			x.Long = long
			out = append(out, x)
		}
		for _, prio := range []int{math.MinInt, -1001, 1001, 1<<32 + 1, math.MaxInt} {
			x := s
			x.Prio = prio
			out = append(out, x)
		}
		for _, tag := range []string{"A", " ", "-", "a-", "\x00", "é", strings.Repeat("a", 17)} {
			x := s
			x.Tag = tag
			out = append(out, x)
		}
	}
	return append(out, api.Spec{}, api.Spec{Nodes: 1, Long: 1}, api.Spec{Nodes: 1, Tag: "a", Long: 1})
}

// noThings are numbers that no thing of g has.
func noThings(g []api.Thing) []int {
	return []int{-1, -2, len(g), len(g) + 1, 255 + len(g), 256, 257, math.MaxInt, math.MinInt, 1 << 32, -1 << 32}
}

// pick is what of the numbers below upTo keep says yes to.
func pick(upTo int, keep func(n int) bool) []int {
	var l []int
	for n := range upTo {
		if keep(n) {
			l = append(l, n)
		}
	}
	return l
}

// without is a set without a number, in memory of its own.
func without(l []int, n int) []int {
	return slices.DeleteFunc(slices.Clone(l), func(k int) bool { return k == n })
}

// with is a set with a number more, in memory of its own.
func with(l []int, n int) []int {
	out := append(slices.Clone(l), n)
	slices.Sort(out)
	return slices.Compact(out)
}

// isPart says whether thing n is thing whole, or is part of it, or of a part.
func isPart(g []api.Thing, n, whole int) bool {
	return n == whole || n > 0 && isPart(g, g[n].Up, whole)
}

// world is a graph, and of each of its nodes that node and what is part of it; of other things nothing.
type world struct {
	g     []api.Thing
	under [][]int
}

// newWorld is the world of a graph.
func newWorld(g []api.Thing) world {
	w := world{g, make([][]int, len(g))}
	for node, x := range g {
		if x.Kind == api.Node {
			w.under[node] = pick(len(g), func(n int) bool { return isPart(g, n, node) })
		}
	}
	return w
}

// marks say of each number whether it is in a set.
type marks [256]bool

// marked are the marks of a set.
func marked(l []int) marks {
	var in marks
	for _, n := range l {
		in[n] = true
	}
	return in
}

// of is what is free under a node, of that kind.
func (w world) of(kind, node int, free marks) []int {
	var l []int
	for _, n := range w.under[node] {
		if free[n] && w.g[n].Kind == kind {
			l = append(l, n)
		}
	}
	return l
}

// suits says whether a node suits s, as the document tells it.
func (w world) suits(free marks, s api.Spec, node int) bool {
	x := w.g[node]
	if x.Kind != api.Node || !free[node] || s.Tag != "" && s.Tag != x.Tag {
		return false
	}
	if s.Whole && slices.ContainsFunc(w.under[node], func(n int) bool { return !free[n] }) {
		return false
	}
	return len(w.of(api.Core, node, free)) >= s.Cores && len(w.of(api.Gpu, node, free)) >= s.Gpus
}

// suiting are the nodes that suit s, rising.
func (w world) suiting(free marks, s api.Spec) []int {
	return pick(len(w.g), func(n int) bool { return w.suits(free, s, n) })
}

// gets is what s gets at a node that suits it, as the document tells it.
func (w world) gets(free marks, s api.Spec, node int) []int {
	if s.Whole {
		return w.under[node]
	}
	return slices.Concat(w.of(api.Core, node, free)[:s.Cores], w.of(api.Gpu, node, free)[:s.Gpus])
}

// find is what s gets, as the document tells it.
func (w world) find(free marks, s api.Spec) ([]int, bool) {
	nodes := w.suiting(free, s)
	if len(nodes) < s.Nodes {
		return nil, false
	}
	var l []int
	for _, n := range nodes[:s.Nodes] {
		l = append(l, w.gets(free, s, n)...)
	}
	slices.Sort(l)
	return l, true
}
