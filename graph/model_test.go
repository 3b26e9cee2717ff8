package graph_test

import (
	"math"
	"slices"

	"bailiwick/api"
)

// pair is a kind, and one of which a thing of that kind may be part.
type pair struct{ kind, up int }

// pairs are all of them, as the document tells them.
func pairs() []pair {
	return []pair{
		{api.Rack, api.Cluster},
		{api.Node, api.Cluster}, {api.Node, api.Rack},
		{api.Core, api.Node}, {api.Gpu, api.Node},
	}
}

// cluster is a cluster alone.
func cluster() []api.Thing { return []api.Thing{{Kind: api.Cluster, Up: -1}} }

// plus is a graph with some things more, in memory of its own.
func plus(g []api.Thing, more ...api.Thing) []api.Thing { return append(slices.Clone(g), more...) }

// sample has racks, a node outside of them, nodes without a thing, and parts that don't stand side by side.
func sample() []api.Thing {
	return []api.Thing{
		{Kind: api.Cluster, Up: -1},
		{Kind: api.Rack, Up: 0},
		{Kind: api.Node, Up: 1, Tag: "fast"},
		{Kind: api.Core, Up: 2},
		{Kind: api.Node, Up: 0, Tag: "0123456789abcxyz"},
		{Kind: api.Rack, Up: 0},
		{Kind: api.Gpu, Up: 4},
		{Kind: api.Core, Up: 2},
		{Kind: api.Node, Up: 5},
		{Kind: api.Node, Up: 1, Tag: "9"},
		{Kind: api.Gpu, Up: 2},
		{Kind: api.Core, Up: 9},
		{Kind: api.Rack, Up: 0},
	}
}

// grown are all right graphs, without tags, of up to so many things.
func grown(most int) [][]api.Thing {
	out := [][]api.Thing{cluster()}
	for from := 0; from < len(out); from++ {
		g := out[from]
		if len(g) == most {
			continue
		}
		for up, x := range g {
			for _, p := range pairs() {
				if p.up == x.Kind {
					out = append(out, plus(g, api.Thing{Kind: p.kind, Up: up}))
				}
			}
		}
	}
	return out
}

// full are right graphs of as many things as there may be, and of one less.
func full() [][]api.Thing {
	racks, cores, mixed := cluster(), plus(cluster(), api.Thing{Kind: api.Node}), sample()
	for len(racks) < api.MaxThings {
		racks = append(racks, api.Thing{Kind: api.Rack})
	}
	for len(cores) < api.MaxThings {
		cores = append(cores, api.Thing{Kind: api.Core, Up: 1})
	}
	for len(mixed) < api.MaxThings {
		n := len(mixed)
		p := pairs()[n%5]
		up := n * n % 11 // not the last thing that such a one may be part of, and not always the same
		for mixed[up].Kind != p.up {
			up = (up + 1) % n
		}
		mixed = append(mixed, api.Thing{Kind: p.kind, Up: up})
	}
	return [][]api.Thing{racks, cores, mixed, racks[:255], cores[:255], mixed[:255]}
}

// graphs are some right graphs of all sizes.
func graphs() [][]api.Thing {
	return append(append(grown(5), sample()), full()...)
}

// wrong are lists of things that are no graphs.
func wrong() [][]api.Thing {
	out := [][]api.Thing{nil, {}, make([]api.Thing, 1), make([]api.Thing, 300)}
	for _, g := range full()[:3] {
		out = append(out, plus(g, api.Thing{Kind: api.Rack}), plus(g, g...))
	}
	for n := range sample() {
		for _, x := range spoilt(sample()[n], n) {
			g := sample()
			g[n] = x
			out = append(out, g)
		}
	}
	return out
}

// spoilt are things that may not stand at place n of sample instead of x.
func spoilt(x api.Thing, n int) []api.Thing {
	var out []api.Thing
	for _, kind := range []int{-1, 5, 6, math.MaxInt, math.MinInt, 1 << 32} {
		out = append(out, api.Thing{Kind: kind, Up: x.Up, Tag: x.Tag})
	}
	for _, up := range []int{-2, n, n + 1, 255, 256, math.MaxInt, math.MinInt, 1 << 32} {
		out = append(out, api.Thing{Kind: x.Kind, Up: up, Tag: x.Tag})
	}
	for _, tag := range noTags() {
		out = append(out, api.Thing{Kind: x.Kind, Up: x.Up, Tag: tag})
	}
	if x.Kind != api.Node {
		out = append(out, api.Thing{Kind: x.Kind, Up: x.Up, Tag: "fast"}, api.Thing{Kind: x.Kind, Up: x.Up, Tag: "9"})
	}
	if x.Kind != api.Cluster {
		return append(out, api.Thing{Kind: x.Kind, Up: -1}, api.Thing{Kind: api.Cluster, Up: -1}, api.Thing{Kind: api.Cluster})
	}
	for kind := api.Rack; kind <= api.Gpu; kind++ {
		out = append(out, api.Thing{Kind: kind, Up: -1}, api.Thing{Kind: kind})
	}
	return out
}

// tags may be a node's.
func tags() []string {
	return []string{"", "a", "z", "0", "9", "fast", "a1", "1a", "az09", "0123456789abcxyz", "zzzzzzzzzzzzzzzz", "00", "007"}
}

// noTags may be no thing's tags.
func noTags() []string {
	return []string{
		"A", "Z", "Fast", "fasT", " ", "a b", " a", "a ", "-", "a-b", "_", "a_b", "a.b", "a,b", "/", ":", "`", "{", "\x00", "a\x00", "\n", "a\n", "\xff", "é", "ß", "٣", "１",
		"abcdefghijklmnopq", "00000000000000000", "ABCDEFGHIJKLMNOPQ", "aaaaaaaaaaaaaaa\x00", "aaaaaaaaaaaaaaa\x00a", "aaaaaaaaaaaaaaaa ", " aaaaaaaaaaaaaaaa",
	}
}

// noThings are numbers that no thing of g has.
func noThings(g []api.Thing) []int {
	return []int{-1, -2, len(g), len(g) + 1, 256, 257, math.MaxInt, math.MinInt, 1 << 32, -1 << 32}
}

// sets are some sets: of things of g alone, and of others too.
func sets(g []api.Thing) [][]int {
	out := [][]int{nil, {}, {0}, {len(g) - 1}, {255}, span(0, len(g)-1), span(0, 255), span(len(g), 255), span(len(g)/2, 255)}
	if len(g) < 256 {
		out = append(out, []int{len(g)}, []int{0, len(g)}, span(0, len(g)))
	}
	if len(g) <= 5 {
		for bits := range 1 << len(g) {
			out = append(out, pick(len(g), func(n int) bool { return bits>>n&1 == 1 }))
		}
		return out
	}
	for step := 2; step < 30; step += 3 {
		every := func(n int) bool { return n%step == step/2 }
		out = append(out, pick(len(g), every), pick(256, every))
	}
	return out
}

// noSets are lists that are no sets, most of them of numbers of things.
func noSets() [][]int {
	return [][]int{{-1}, {256}, {0, 0}, {1, 0}, {-1, 0}, {0, 1, 1}, {0, 256}, {2, 3, 1}, append(span(0, 255), 256), {math.MaxInt}, {math.MinInt}, {1 << 32}}
}

// span is all from first up to last.
func span(first, last int) []int {
	return pick(last+1, func(n int) bool { return n >= first })
}

// pick is what of the numbers below most keep says yes to.
func pick(most int, keep func(n int) bool) []int {
	var l []int
	for n := range most {
		if keep(n) {
			l = append(l, n)
		}
	}
	return l
}

// isPart says whether thing n is thing whole, or is part of it, or of a part.
func isPart(g []api.Thing, n, whole int) bool {
	return n == whole || n > 0 && isPart(g, g[n].Up, whole)
}
