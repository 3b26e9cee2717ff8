package match_test

import (
	"slices"
	"testing"

	"bailiwick/api"
	"bailiwick/match"
)

// each hands on some graphs, each with some sets of free things and some specs: all there are, of small ones.
func each(try func(w world, free []int, s api.Spec)) {
	cross := func(graphs [][]api.Thing, specs []api.Spec) {
		for _, g := range graphs {
			w := newWorld(g)
			for _, free := range frees(g) {
				for _, s := range specs {
					try(w, free, s)
				}
			}
		}
	}
	cross(grown(5), specs(2, 2, 1, "", "a"))
	cross([][]api.Thing{sample()}, specs(4, 2, 2, tags()...))
	cross([][]api.Thing{full()}, specs(4, 2, 2, "", "a"))
	cross(great(), greatSpecs())
}

// P9.1: which nodes suit, how many of them do, and what is got.
func TestSuitsManyFind(t *testing.T) {
	each(func(w world, free []int, s api.Spec) {
		in := marked(free)
		nodes := w.suiting(in, s)
		for n := 0; n < len(w.g); n += 1 + len(w.g)/12 {
			if got := match.Suits(w.g, free, s, n); got != slices.Contains(nodes, n) {
				t.Fatalf("Suits(%v, %v, %+v, %d) = %v", w.g, free, s, n, got)
			}
		}
		if got := match.Many(w.g, free, s); got != len(nodes) {
			t.Fatalf("Many(%v, %v, %+v) = %d, not %d", w.g, free, s, got, len(nodes))
		}
		want, ok := w.find(in, s)
		if got, found := match.Find(w.g, free, s); !slices.Equal(got, want) || found != ok {
			t.Fatalf("Find(%v, %v, %+v) = %v, %v, not %v, %v", w.g, free, s, got, found, want, ok)
		}
	})
}

// P9.1: the same of a graph told by hand.
func TestSample(t *testing.T) {
	g := sample() // nodes 2 (5, 13; gpu 9), 3 (4, 10; gpu 6), 8 (nothing), and 11 (12; gpus 14, 15)
	free := all(g)
	for _, c := range []struct {
		free []int
		s    api.Spec
		want []int
		many int
	}{
		{free, api.Spec{Nodes: 1, Cores: 1, Long: 1}, []int{5}, 3},
		{free, api.Spec{Nodes: 1, Cores: 2, Long: 1}, []int{5, 13}, 2},
		{free, api.Spec{Nodes: 2, Cores: 2, Long: 1}, []int{4, 5, 10, 13}, 2},
		{free, api.Spec{Nodes: 2, Cores: 2, Gpus: 1, Long: 1}, []int{4, 5, 6, 9, 10, 13}, 2},
		{free, api.Spec{Nodes: 3, Cores: 2, Long: 1}, nil, 2},
		{free, api.Spec{Nodes: 3, Gpus: 1, Long: 1}, []int{6, 9, 14}, 3},
		{free, api.Spec{Nodes: 1, Gpus: 2, Long: 1}, []int{14, 15}, 1},
		{free, api.Spec{Nodes: 1, Cores: 2, Gpus: 2, Long: 1}, nil, 0},
		{free, api.Spec{Nodes: 2, Cores: 1, Tag: "a", Long: 1}, []int{5, 12}, 2},
		{free, api.Spec{Nodes: 1, Cores: 1, Tag: "b", Long: 1}, []int{4}, 1},
		{free, api.Spec{Nodes: 1, Cores: 1, Tag: "c", Long: 1}, nil, 0},
		{free, api.Spec{Nodes: 1, Whole: true, Long: 1}, []int{2, 5, 9, 13}, 4},
		{free, api.Spec{Nodes: 3, Whole: true, Long: 1}, []int{2, 3, 4, 5, 6, 8, 9, 10, 13}, 4},
		{free, api.Spec{Nodes: 1, Whole: true, Gpus: 2, Long: 1}, []int{11, 12, 14, 15}, 1},
		{free, api.Spec{Nodes: 1, Whole: true, Cores: 1, Tag: "b", Long: 1}, []int{3, 4, 6, 10}, 1},
		{free, api.Spec{Nodes: 5, Whole: true, Long: 1}, nil, 4},
		// A core less at 2: one is left there, but the node isn't whole.
		{without(free, 5), api.Spec{Nodes: 1, Cores: 1, Long: 1}, []int{13}, 3},
		{without(free, 5), api.Spec{Nodes: 1, Cores: 2, Long: 1}, []int{4, 10}, 1},
		{without(free, 5), api.Spec{Nodes: 1, Whole: true, Long: 1}, []int{3, 4, 6, 10}, 3},
		// A node less: what is under it is free, but isn't got.
		{without(free, 2), api.Spec{Nodes: 2, Cores: 1, Long: 1}, []int{4, 12}, 2},
		{without(free, 2), api.Spec{Nodes: 2, Whole: true, Long: 1}, []int{3, 4, 6, 8, 10}, 3},
		{without(free, 8), api.Spec{Nodes: 4, Whole: true, Long: 1}, nil, 3},
		// The racks and the cluster need not be free.
		{[]int{2, 5}, api.Spec{Nodes: 1, Cores: 1, Long: 1}, []int{5}, 1},
		{[]int{2, 5, 9, 13}, api.Spec{Nodes: 1, Whole: true, Long: 1}, []int{2, 5, 9, 13}, 1},
		{[]int{8}, api.Spec{Nodes: 1, Whole: true, Long: 1}, []int{8}, 1},
		{nil, api.Spec{Nodes: 1, Whole: true, Long: 1}, nil, 0},
	} {
		if got, ok := match.Find(g, c.free, c.s); !slices.Equal(got, c.want) || ok != (len(c.want) > 0) {
			t.Errorf("Find(g, %v, %+v) = %v, %v", c.free, c.s, got, ok)
		}
		if got := match.Many(g, c.free, c.s); got != c.many {
			t.Errorf("Many(g, %v, %+v) = %d", c.free, c.s, got)
		}
	}
}

// P9.1: a tag is asked for as a whole, and an empty one by nobody.
func TestTag(t *testing.T) {
	g := cluster()
	tags := []string{"", "a", "ab", "b", "aa", "ba", "abc", "0", "00", "0123456789abcxyz"}
	for _, tag := range tags {
		g = append(g, api.Thing{Kind: api.Node, Tag: tag})
	}
	for n, tag := range tags {
		s := api.Spec{Nodes: 1, Whole: true, Tag: tag, Long: 1}
		many := 1
		if tag == "" {
			many = len(tags)
		}
		if l, ok := match.Find(g, all(g), s); !slices.Equal(l, []int{n + 1}) || !ok || match.Many(g, all(g), s) != many || !match.Could(g, s) {
			t.Errorf("Find of tag %q = %v, %v; Many is %d", tag, l, ok, match.Many(g, all(g), s))
		}
		if free := without(all(g), n+1); tag != "" && (match.Many(g, free, s) != 0 || match.Suits(g, free, s, 1)) {
			t.Errorf("of tag %q %d nodes suit, though its own isn't free", tag, match.Many(g, free, s))
		}
	}
}

// P9.1: Could asks as if all were free.
func TestCould(t *testing.T) {
	for _, g := range append(append(grown(5), sample(), full()), great()...) {
		w := newWorld(g)
		for _, s := range append(specs(4, 2, 2, tags()...), greatSpecs()...) {
			_, want := w.find(marked(all(g)), s)
			if got := match.Could(g, s); got != want {
				t.Fatalf("Could(%v, %+v) = %v", g, s, got)
			}
		}
	}
}

// P9.1: what may be asked for at most is got, and is not where one is lacking.
func TestMost(t *testing.T) {
	for i, c := range []struct {
		g  []api.Thing
		s  api.Spec
		ok bool
	}{
		{row(64, 1, 1), api.Spec{Nodes: 64, Cores: 1, Gpus: 1, Long: 1}, true},
		{row(63, 1, 1), api.Spec{Nodes: 64, Cores: 1, Gpus: 1, Long: 1}, false},
		{row(255, 0, 0), api.Spec{Nodes: 64, Whole: true, Long: 1}, true},
		{row(1, 64, 64), api.Spec{Nodes: 1, Cores: 64, Gpus: 64, Long: 1}, true},
		{row(1, 63, 64), api.Spec{Nodes: 1, Cores: 64, Gpus: 64, Long: 1}, false},
		{row(1, 64, 63), api.Spec{Nodes: 1, Cores: 64, Gpus: 64, Long: 1}, false},
		{row(1, 254, 0), api.Spec{Nodes: 1, Cores: 64, Long: 1}, true},
		{row(1, 254, 0), api.Spec{Nodes: 1, Whole: true, Long: 1}, true},
	} {
		l, ok := match.Find(c.g, all(c.g), c.s)
		if ok != c.ok || match.Could(c.g, c.s) != c.ok {
			t.Errorf("%d: Find is %v, Could is %v", i, ok, match.Could(c.g, c.s))
		}
		parts := c.s.Nodes * (c.s.Cores + c.s.Gpus)
		if c.s.Whole {
			parts = c.s.Nodes * (len(c.g) - 1) / match.Many(c.g, all(c.g), c.s)
		}
		if c.ok && len(l) != parts {
			t.Errorf("%d: %d things are got, not %d", i, len(l), parts)
		}
	}
}

// P9.1: what is no node, or no thing at all, doesn't suit.
func TestNoNode(t *testing.T) {
	for _, g := range append(append(grown(4), sample()), great()...) {
		for _, s := range []api.Spec{{Nodes: 1, Cores: 1, Long: 1}, {Nodes: 1, Gpus: 1, Long: 1}, {Nodes: 1, Whole: true, Long: 1}, {Nodes: 64, Whole: true, Tag: "a", Long: 1}} {
			for n, x := range g {
				if x.Kind != api.Node && match.Suits(g, all(g), s, n) {
					t.Fatalf("Suits(%v, all, %+v, %d)", g, s, n)
				}
			}
			for _, n := range noThings(g) {
				for _, none := range beyond(g) {
					if match.Suits(g, slices.Concat(all(g), none), s, n) {
						t.Fatalf("Suits(%v, all and %v, %+v, %d)", g, none, s, n)
					}
				}
			}
		}
	}
}

// P9.1: free numbers that no thing has don't count.
func TestBeyond(t *testing.T) {
	for _, g := range append(grown(4), sample(), row(2, 1, 1), full()[:255], full()) {
		for _, free := range frees(g) {
			for _, none := range beyond(g) {
				both := slices.Concat(free, none)
				for _, s := range specs(2, 1, 1, "", "a") {
					want, wantOK := match.Find(g, free, s)
					if got, ok := match.Find(g, both, s); !slices.Equal(got, want) || ok != wantOK || match.Many(g, both, s) != match.Many(g, free, s) {
						t.Fatalf("Find(%v, %v, %+v) = %v, %v, not %v, %v", g, both, s, got, ok, want, wantOK)
					}
					for n := range min(len(g), 9) {
						if match.Suits(g, both, s, n) != match.Suits(g, free, s, n) {
							t.Fatalf("Suits(%v, %v, %+v, %d)", g, both, s, n)
						}
					}
				}
			}
		}
	}
}

// P9.1: for how long, and how urgently, is all one.
func TestLongPrio(t *testing.T) {
	g := sample()
	for _, free := range frees(g) {
		for _, s := range specs(3, 2, 2, "", "a") {
			want, wantOK := match.Find(g, free, s)
			for _, long := range []int64{1, 2, 1 << 40} {
				for _, prio := range []int{-1000, 0, 1000} {
					x := s
					x.Long, x.Prio = long, prio
					if got, ok := match.Find(g, free, x); !slices.Equal(got, want) || ok != wantOK || match.Many(g, free, x) != match.Many(g, free, s) || match.Could(g, x) != match.Could(g, s) {
						t.Fatalf("Find(g, %v, %+v) = %v, %v, not %v, %v", free, x, got, ok, want, wantOK)
					}
				}
			}
		}
	}
}

// wantNone tells where a node suits, or something is got; of Could it says nothing.
func wantNone(t *testing.T, g []api.Thing, free []int, s api.Spec) {
	t.Helper()
	for n := -1; n <= len(g); n++ {
		if match.Suits(g, free, s, n) {
			t.Fatalf("Suits(%v, %v, %+v, %d)", g, free, s, n)
		}
	}
	if l, ok := match.Find(g, free, s); len(l) > 0 || ok {
		t.Fatalf("Find(%v, %v, %+v) = %v, %v", g, free, s, l, ok)
	}
	if n := match.Many(g, free, s); n != 0 {
		t.Fatalf("Many(%v, %v, %+v) = %d", g, free, s, n)
	}
}

// P9.1: false, nothing and 0 of what is no graph.
func TestNoGraph(t *testing.T) {
	for _, g := range wrong() {
		for _, s := range []api.Spec{{Nodes: 1, Cores: 1, Long: 1}, {Nodes: 2, Gpus: 1, Long: 1}, {Nodes: 1, Whole: true, Long: 1}, {Nodes: 1, Whole: true, Tag: "a", Long: 1}} {
			for _, free := range [][]int{nil, {0}, {0, 1, 2, 3, 4, 5, 6, 7, 8, 9, 10, 11, 12, 13, 14, 15}, pick(256, func(int) bool { return true })} {
				wantNone(t, g, free, s)
			}
			if match.Could(g, s) {
				t.Fatalf("Could(%v, %+v)", g, s)
			}
		}
	}
}

// P9.1: false, nothing and 0 of free things that are no set, though enough are among them.
func TestNoSet(t *testing.T) {
	for _, g := range append(grown(4), sample(), row(2, 2, 2), full()) {
		for _, free := range noSets(g) {
			for _, s := range specs(2, 1, 1, "", "a") {
				wantNone(t, g, free, s)
			}
		}
	}
}

// P9.1: false, nothing and 0 of a spec that may not be, though there is enough for it.
func TestNoSpec(t *testing.T) {
	for _, g := range append(great(), cluster(), sample(), row(1, 66, 66), row(2, 65, 0), row(2, 0, 65)) {
		for _, s := range noSpecs() {
			wantNone(t, g, all(g), s)
			wantNone(t, g, nil, s)
			if match.Could(g, s) {
				t.Fatalf("Could(%v, %+v)", g, s)
			}
		}
	}
}

// Rule 3: what is handed in stays as it is, its spare room too, and an answer is new memory.
func TestMemory(t *testing.T) {
	room := plus(sample(), api.Thing{Kind: 9, Up: 9, Tag: "spare"})
	spare := append(all(sample()), -7, -8)
	g, free := room[:len(room)-1], spare[:len(spare)-2]
	keptRoom, keptSpare := slices.Clone(room), slices.Clone(spare)
	for _, s := range []api.Spec{{Nodes: 2, Cores: 1, Gpus: 1, Long: 1}, {Nodes: 4, Whole: true, Long: 1}, {Nodes: 5, Whole: true, Long: 1}, {}} {
		first, _ := match.Find(g, free, s)
		want := slices.Clone(first)
		for k := range first[:cap(first)] {
			first[:cap(first)][k] = -5
		}
		if second, _ := match.Find(g, free, s); !slices.Equal(second, want) {
			t.Errorf("Find(g, free, %+v): %v, and then %v", s, want, second)
		}
		match.Suits(g, free, s, 2)
		match.Many(g, free, s)
		match.Could(g, s)
		if !slices.Equal(room, keptRoom) || !slices.Equal(spare, keptSpare) {
			t.Fatalf("what was handed in has become %v, %v", room, spare)
		}
	}
}
