package health_test

import (
	"math"
	"slices"

	"bailiwick/api"
)

// cluster is a cluster alone.
func cluster() []api.Thing { return []api.Thing{{Kind: api.Cluster, Up: -1}} }

// plus is a graph with some things more, in memory of its own.
func plus(g []api.Thing, more ...api.Thing) []api.Thing { return append(slices.Clone(g), more...) }

// sample has racks, a node outside of them, nodes without a thing, and parts that don't stand side by side.
func sample() []api.Thing {
	return []api.Thing{
		{Kind: api.Cluster, Up: -1},
		{Kind: api.Rack, Up: 0},
		{Kind: api.Node, Up: 1, Tag: "fast"},
		{Kind: api.Core, Up: 2},
		{Kind: api.Node, Up: 0},
		{Kind: api.Rack, Up: 0},
		{Kind: api.Gpu, Up: 4},
		{Kind: api.Core, Up: 2},
		{Kind: api.Node, Up: 5},
		{Kind: api.Gpu, Up: 2},
		{Kind: api.Node, Up: 1},
		{Kind: api.Core, Up: 10},
	}
}

// kindsUnder are the kinds of things that may be part of one of that kind.
func kindsUnder(kind int) []int {
	switch kind {
	case api.Cluster:
		return []int{api.Rack, api.Node}
	case api.Rack:
		return []int{api.Node}
	case api.Node:
		return []int{api.Core, api.Gpu}
	}
	return nil
}

// grown are all graphs, without tags, of up to so many things.
func grown(most int) [][]api.Thing {
	out := [][]api.Thing{cluster()}
	for from := 0; from < len(out); from++ {
		g := out[from]
		if len(g) == most {
			continue
		}
		for up, x := range g {
			for _, kind := range kindsUnder(x.Kind) {
				out = append(out, plus(g, api.Thing{Kind: kind, Up: up}))
			}
		}
	}
	return out
}

// full is a graph of as many things as there may be: sample, and some more of each kind.
func full() []api.Thing {
	g := sample()
	for len(g) < api.MaxThings {
		up := len(g) * len(g) % 11 // not always the same, and not always the last
		for len(kindsUnder(g[up].Kind)) == 0 {
			up--
		}
		kinds := kindsUnder(g[up].Kind)
		g = append(g, api.Thing{Kind: kinds[len(g)%len(kinds)], Up: up})
	}
	return g
}

// graphs are some graphs of all sizes.
func graphs() [][]api.Thing {
	return append(grown(4), sample(), full()[:255], full())
}

// wrong are lists of things that are no graphs.
func wrong() [][]api.Thing {
	tagged := sample()
	tagged[3].Tag = "fast"
	return [][]api.Thing{
		nil, {},
		{{Kind: api.Cluster, Up: 0}},
		{{Kind: api.Node, Up: -1}},
		{{Kind: api.Cluster, Up: -1, Tag: "a"}},
		sample()[1:],
		tagged,
		plus(cluster(), api.Thing{Kind: api.Core, Up: 0}),
		plus(cluster(), api.Thing{Kind: api.Node, Up: 1}),
		plus(cluster(), api.Thing{Kind: api.Node, Up: -1}),
		plus(cluster(), api.Thing{Kind: api.Node, Up: 256}),
		plus(cluster(), api.Thing{Kind: 5, Up: 0}),
		plus(cluster(), api.Thing{Kind: api.Cluster, Up: -1}),
		plus(cluster(), api.Thing{Kind: api.Core, Up: 2}, api.Thing{Kind: api.Node, Up: 0}),
		plus(full(), api.Thing{Kind: api.Rack, Up: 0}),
		make([]api.Thing, 300),
	}
}

// healths are some of g: all there are, of a small one.
func healths(g []api.Thing) [][]int {
	if len(g) <= 4 {
		return all(len(g))
	}
	out := [][]int{of(len(g), func(n int) int { return api.Fine }), of(len(g), func(n int) int { return api.Drain }), of(len(g), func(n int) int { return api.Down })}
	for n := 0; n < len(g); n += 1 + len(g)/20 {
		for _, how := range hows() {
			for _, others := range hows() {
				out = append(out, of(len(g), func(k int) int {
					if k == n {
						return how
					}
					return others
				}))
			}
		}
	}
	// Few of the first ones are bad, so that not all are.
	for seed := 1; seed < 40; seed++ {
		out = append(out, of(len(g), func(n int) int {
			if n*seed%7 == 3 {
				return (n + seed) % 3
			}
			return api.Fine
		}))
	}
	return out
}

// all are all lists of size numbers from 0 to 2.
func all(size int) [][]int {
	out := [][]int{{}}
	for range size {
		var longer [][]int
		for _, h := range out {
			for how := range 3 {
				longer = append(longer, append(slices.Clone(h), how))
			}
		}
		out = longer
	}
	return out
}

// noHealths are lists that are no health of g, a graph: too short, too long, and with one number at any place that is none of the three.
func noHealths(g []api.Thing) [][]int {
	fine := make([]int, len(g))
	out := [][]int{nil, {}, fine[1:], append(slices.Clone(fine), api.Fine), append(slices.Clone(fine), api.Down), append(slices.Clone(fine), fine...), make([]int, 257), make([]int, 300)}
	for n := range g {
		for _, how := range noHows() {
			for _, others := range hows() {
				h := of(len(g), func(int) int { return others })
				h[n] = how
				out = append(out, h)
			}
		}
	}
	return out
}

// hows are how a thing may be.
func hows() []int { return []int{0, 1, 2} }

// noHows are none of the three.
func noHows() []int {
	return []int{-1, -2, 3, 4, 255, 256, math.MaxInt, math.MinInt, 1 << 32, 1<<32 + 1, -1 << 32}
}

// noThings are numbers that no thing of g has.
func noThings(g []api.Thing) []int {
	return []int{-1, -2, len(g), len(g) + 1, 256, 257, math.MaxInt, math.MinInt, 1 << 32, -1 << 32}
}

// of is a list of size numbers, each by its place.
func of(size int, how func(n int) int) []int {
	var l []int
	for n := range size {
		l = append(l, how(n))
	}
	return l
}

// pick is what of the numbers below most keep says yes to.
func pick(most int, keep func(n int) bool) []int {
	var l []int
	for n := range most {
		if keep(n) {
			l = append(l, n)
		}
	}
	return l
}

// isPart says whether thing n is thing whole, or is part of it, or of a part.
func isPart(g []api.Thing, n, whole int) bool {
	return n == whole || n > 0 && isPart(g, g[n].Up, whole)
}

// isSo says whether thing n, or one that it is part of, is how.
func isSo(g []api.Thing, h []int, n, how int) bool {
	return h[n] == how || n > 0 && isSo(g, h, g[n].Up, how)
}

// howBad is how bad thing n is, as the document tells it.
func howBad(g []api.Thing, h []int, n int) int {
	switch {
	case isSo(g, h, n, 2):
		return 2
	case isSo(g, h, n, 1):
		return 1
	}
	return 0
}
