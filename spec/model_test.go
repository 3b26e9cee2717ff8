package spec_test

import (
	"math"
	"math/big"
	"strings"

	"bailiwick/api"
)

// good is the spec of the document's example.
func good() api.Spec { return api.Spec{Nodes: 2, Cores: 3, Gpus: 1, Long: 5} }

// full asks for as much as may be asked for.
func full() api.Spec {
	return api.Spec{Nodes: 64, Cores: 64, Gpus: 64, Tag: "0123456789abcxyz", Whole: true, Long: 1 << 40, Prio: 1000}
}

// nodes may be asked for, and noNodes may not.
func nodes() []int { return []int{1, 2, 3, 16, 63, 64} }
func noNodes() []int {
	return []int{math.MinInt, -1 << 32, -64, -2, -1, 0, 65, 66, 128, 256, 1000, 1 << 32, 1<<32 + 1, math.MaxInt}
}

// parts are numbers of cores, or of gpus, that may be asked for of a node, and noParts are not.
func parts() []int { return []int{0, 1, 2, 3, 63, 64} }
func noParts() []int {
	return []int{math.MinInt, -1 << 32, -64, -2, -1, 65, 66, 128, 256, 1000, 1 << 32, 1<<32 + 1, math.MaxInt}
}

// longs are how long a job may be, and noLongs are not.
func longs() []int64 {
	return []int64{1, 2, 5, 1 << 31, 1<<32 - 1, 1 << 32, 1<<32 + 1, 1<<40 - 1, 1 << 40}
}
func noLongs() []int64 {
	return []int64{math.MinInt64, -api.Never, -1 << 40, -1 << 32, -5, -1, 0, 1<<40 + 1, 1<<40 + 5, 1 << 41, api.Never, api.Never + 1, math.MaxInt64}
}

// prios may be, and noPrios may not.
func prios() []int { return []int{-1000, -999, -1, 0, 1, 2, 999, 1000} }
func noPrios() []int {
	return []int{math.MinInt, -1 << 32, -1002, -1001, 1001, 1002, 1 << 32, 1<<32 + 1, math.MaxInt}
}

// tags may be a node's, and noTags may not.
func tags() []string {
	return []string{"", "a", "z", "0", "9", "fast", "a1", "1a", "az09", "0123456789abcxyz", "zzzzzzzzzzzzzzzz", "0000000000000000"}
}
func noTags() []string {
	return []string{
		"A", "Z", "Fast", "fasT", " ", "a b", " a", "a ", "-", "a-b", "_", "a_b", "a.b", "a,b", "/", ":", "`", "{", "\x00", "a\x00", "\n", "a\n", "\xff", "é", "ß", "٣", "１",
		"abcdefghijklmnopq", "00000000000000000", "aaaaaaaaaaaaaaa\x00", "aaaaaaaaaaaaaaaa ", strings.Repeat("a", 255), strings.Repeat("a", 256), strings.Repeat("a", 272),
	}
}

// specs are all that may be, of a few numbers at each place.
func specs() []api.Spec {
	var out []api.Spec
	for _, n := range []int{1, 2, 3, 64} {
		for _, c := range []int{0, 1, 3, 64} {
			for _, g := range []int{0, 1, 2, 64} {
				for _, whole := range []bool{false, true} {
					if c == 0 && g == 0 && !whole {
						continue
					}
					for _, long := range []int64{1, 5, 1 << 40} {
						for _, prio := range []int{-1000, 0, 1, 1000} {
							for _, tag := range []string{"", "fast", "0123456789abcxyz"} {
								out = append(out, api.Spec{Nodes: n, Cores: c, Gpus: g, Tag: tag, Whole: whole, Long: long, Prio: prio})
							}
						}
					}
				}
			}
		}
	}
	return out
}

// wrong are specs that may not be: each is one that may be, but at one place.
func wrong() []api.Spec {
	var out []api.Spec
	for _, s := range []api.Spec{good(), full(), {Nodes: 1, Whole: true, Long: 1, Prio: -1000}, {Nodes: 1, Cores: 1, Long: 1, Tag: "a"}, {Nodes: 64, Gpus: 64, Long: 1 << 40}} {
		out = append(out, spoilt(s)...)
	}
	return append(out, api.Spec{}, api.Spec{Nodes: 1, Long: 1}, api.Spec{Nodes: 64, Tag: "fast", Long: 1 << 40, Prio: 1000})
}

// spoilt are s, spoilt at one place each.
func spoilt(s api.Spec) []api.Spec {
	var out []api.Spec
	for _, n := range noNodes() {
		x := s
		x.Nodes = n
		out = append(out, x)
	}
	for _, n := range noParts() {
		x, y := s, s
		x.Cores, y.Gpus = n, n
		out = append(out, x, y)
	}
	for _, long := range noLongs() {
		x := s
		x.Long = long
		out = append(out, x)
	}
	for _, prio := range noPrios() {
		x := s
		x.Prio = prio
		out = append(out, x)
	}
	for _, tag := range noTags() {
		x := s
		x.Tag = tag
		out = append(out, x)
	}
	x := s
	x.Cores, x.Gpus, x.Whole = 0, 0, false
	return append(out, x)
}

// times are numbers, rising: times, and at both ends such as are none.
func times() []int64 {
	return []int64{
		math.MinInt64, math.MinInt64 + 1, -api.Never, -1 << 40, -5, -4, -1, 0, 1, 2, 9, 10, 1 << 32, 1 << 40,
		api.Never - 1<<40 - 1, api.Never - 1<<40, api.Never - 1<<40 + 1, api.Never - 6, api.Never - 5, api.Never - 4, api.Never - 1,
		api.Never, api.Never + 1, math.MaxInt64 - 1, math.MaxInt64,
	}
}

// nearest is the time nearest to n.
func nearest(n *big.Int) int64 {
	if n.Sign() < 0 {
		return 0
	}
	if n.Cmp(big.NewInt(api.Never)) > 0 {
		return api.Never
	}
	return n.Int64()
}

// later is the time that is so long behind the one nearest to from.
func later(from, long int64) int64 {
	near := nearest(big.NewInt(from))
	return nearest(new(big.Int).Add(big.NewInt(near), big.NewInt(long)))
}

// sums are how many nodes, cores and gpus s asks for, told node by node.
func sums(s api.Spec) (n, cores, gpus int) {
	for range s.Nodes {
		n++
		cores += s.Cores
		gpus += s.Gpus
	}
	return n, cores, gpus
}

// urgent says whether a is ahead of b, of two that may be, as the document tells it.
func urgent(a, b api.Spec) bool {
	_, aCores, aGpus := sums(a)
	_, bCores, bGpus := sums(b)
	few, many := aCores+aGpus < bCores+bGpus, aCores+aGpus > bCores+bGpus
	switch {
	case a.Prio > b.Prio:
		return true
	case a.Prio < b.Prio:
		return false
	case few:
		return true
	case many:
		return false
	}
	return a.Long < b.Long
}
