package match_test

import (
	"slices"
	"testing"

	"bailiwick/api"
	"bailiwick/graph"
	"bailiwick/match"
	"bailiwick/set"
)

// P9.2: what is got is free, and as much as was asked for: whole nodes, or just so many cores and gpus of each of so many nodes.
func TestGotIsFreeAndAsMuch(t *testing.T) {
	each(func(w world, free []int, s api.Spec) {
		l, ok := match.Find(w.g, free, s)
		if !ok {
			return
		}
		if !set.Part(l, free) || !set.Part(l, all(w.g)) {
			t.Fatalf("Find(%v, %v, %+v) = %v: not all of that is free", w.g, free, s, l)
		}
		nodes := 0
		for n := range w.g {
			part := set.Meet(l, w.under[n])
			if len(part) == 0 {
				continue
			}
			nodes++
			kinds := graph.Kinds(w.g, part)
			if s.Whole && len(part) != len(w.under[n]) || !s.Whole && kinds != [5]int{api.Core: s.Cores, api.Gpu: s.Gpus} {
				t.Fatalf("Find(%v, %v, %+v) = %v: not as much as was asked for of node %d", w.g, free, s, l, n)
			}
			if kinds[api.Core] < s.Cores || kinds[api.Gpu] < s.Gpus || !match.Suits(w.g, free, s, n) {
				t.Fatalf("Find(%v, %v, %+v) = %v: node %d doesn't suit", w.g, free, s, l, n)
			}
		}
		if nodes != s.Nodes {
			t.Fatalf("Find(%v, %v, %+v) = %v: of %d nodes", w.g, free, s, l, nodes)
		}
	})
}

// P9.2: with one thing more that is free, and so with any, a spec gets it as well, and no node suits less.
func TestMoreIsFree(t *testing.T) {
	each(func(w world, free []int, s api.Spec) {
		many := match.Many(w.g, free, s)
		_, ok := match.Find(w.g, free, s)
		for n := 0; n < len(w.g); n += 1 + len(w.g)/6 {
			more := with(free, n)
			if _, then := match.Find(w.g, more, s); ok && !then || match.Many(w.g, more, s) < many {
				t.Fatalf("of %v and %+v: with %v free %d nodes suit, with %v %d", w.g, s, free, many, more, match.Many(w.g, more, s))
			}
		}
		if ok && !match.Could(w.g, s) {
			t.Fatalf("Find(%v, %v, %+v) is true, and Could isn't", w.g, free, s)
		}
	})
}

// P9.2: what is got and taken away leaves the rest: what is got next is apart from it, and nodes of which nothing was got suit as they did; till too little is left.
func TestRest(t *testing.T) {
	each(func(w world, free []int, s api.Spec) {
		rest := slices.Clone(free)
		var gone []int
		for range 8 {
			l, ok := match.Find(w.g, rest, s)
			if !ok {
				return
			}
			if len(l) == 0 || !set.Apart(l, gone) {
				t.Fatalf("Find(%v, %v, %+v) = %v: %v are got already", w.g, rest, s, l, gone)
			}
			then := set.Less(rest, l)
			wantUntouched(t, w, rest, then, l, s)
			rest, gone = then, set.Join(gone, l)
			if !slices.Equal(set.Join(rest, gone), free) || !set.Apart(rest, gone) {
				t.Fatalf("of %v, %v, %+v: %v are got, %v are left", w.g, free, s, gone, rest)
			}
		}
	})
}

// wantUntouched tells where a node of which nothing was got suits otherwise, once what was got isn't free.
func wantUntouched(t *testing.T, w world, before, after, got []int, s api.Spec) {
	t.Helper()
	for n := 0; n < len(w.g); n += 1 + len(w.g)/6 {
		if set.Apart(w.under[n], got) && match.Suits(w.g, before, s, n) != match.Suits(w.g, after, s, n) {
			t.Fatalf("of %v and %+v: node %d suits with %v free, or with %v, not with both", w.g, s, n, before, after)
		}
	}
}
