package graph_test

import (
	"slices"
	"testing"

	"bailiwick/api"
	"bailiwick/graph"
)

// P5.1: may it be a node's tag?
func TestTag(t *testing.T) {
	for _, s := range tags() {
		if !graph.Tag(s) {
			t.Errorf("Tag(%q) is false", s)
		}
	}
	for _, s := range noTags() {
		if graph.Tag(s) {
			t.Errorf("Tag(%q) is true", s)
		}
	}
}

// P5.1: of all bytes just letters a to z and digits, at any place of a tag; and up to 16 of them.
func TestTagBytes(t *testing.T) {
	const letters = "abcdefghijklmnopqrstuvwxyz0123456789"
	for b := range 256 {
		x := string([]byte{byte(b)})
		want := slices.Contains([]byte(letters), byte(b))
		for _, s := range []string{x, x + "a", "a" + x, "0" + x + "z", x + "aaaaaaaaaaaaaaa", "aaaaaaaaaaaaaaa" + x} {
			if graph.Tag(s) != want {
				t.Errorf("Tag(%q) is %v", s, !want)
			}
		}
	}
	for size := range len(letters) {
		for from := range len(letters) - size {
			if s := letters[from : from+size]; graph.Tag(s) != (size <= api.MaxTag) {
				t.Errorf("Tag(%q) is %v", s, graph.Tag(s))
			}
		}
	}
}

// P5.1: graphs of all forms that may be.
func TestRight(t *testing.T) {
	for _, g := range graphs() {
		if !graph.Right(g) {
			t.Fatalf("Right(%v) is false", g)
		}
	}
	for _, tag := range tags() {
		for n, x := range sample() {
			g := sample()
			g[n].Tag = tag
			if graph.Right(g) != (tag == "" || x.Kind == api.Node) {
				t.Errorf("Right of thing %d of tag %q is %v", n, tag, graph.Right(g))
			}
		}
	}
}

// P5.1: lists that are no graphs: too long, too short, and with one thing at any place that may not be.
func TestRightOfNone(t *testing.T) {
	for _, g := range wrong() {
		if graph.Right(g) {
			t.Errorf("Right(%v) is true", g)
		}
	}
	for _, x := range spoilt(cluster()[0], 0) {
		if graph.Right([]api.Thing{x}) {
			t.Errorf("Right of %v alone is true", x)
		}
	}
}

// P5.1: all kinds and parts of a thing more, behind all small graphs; a graph that isn't right doesn't become so.
func TestRightThingByThing(t *testing.T) {
	for _, g := range grown(5) {
		for kind := -1; kind <= 5; kind++ {
			for up := -2; up <= len(g)+1; up++ {
				want := false
				for _, p := range pairs() {
					want = want || up >= 0 && up < len(g) && p == pair{kind, g[up].Kind}
				}
				if more := plus(g, api.Thing{Kind: kind, Up: up}); graph.Right(more) != want {
					t.Fatalf("Right(%v) is %v", more, !want)
				}
				if ahead := append([]api.Thing{{Kind: kind, Up: up}}, g...); graph.Right(ahead) {
					t.Fatalf("Right(%v) is true", ahead)
				}
			}
		}
	}
}

// P5.1: a thing's number is that of one ahead of it, also where one behind it would be of the right kind.
func TestRightOrder(t *testing.T) {
	for _, g := range [][]api.Thing{
		plus(cluster(), api.Thing{Kind: api.Core, Up: 2}, api.Thing{Kind: api.Node}),
		plus(cluster(), api.Thing{Kind: api.Gpu, Up: 2}, api.Thing{Kind: api.Node}),
		plus(cluster(), api.Thing{Kind: api.Node, Up: 2}, api.Thing{Kind: api.Rack}),
		plus(cluster(), api.Thing{Kind: api.Node, Up: 3}, api.Thing{Kind: api.Node}, api.Thing{Kind: api.Rack}),
	} {
		if graph.Right(g) {
			t.Errorf("Right(%v) is true", g)
		}
	}
}

// P5.1: Under and Above, by what each thing is part of; Node and Nodes, by what is a node.
func TestUnderAboveNode(t *testing.T) {
	for _, g := range graphs() {
		for n := range g {
			if got, want := graph.Under(g, n), pick(len(g), func(k int) bool { return isPart(g, k, n) }); !slices.Equal(got, want) {
				t.Fatalf("Under(%v, %d) = %v, not %v", g, n, got, want)
			}
			above := pick(len(g), func(k int) bool { return isPart(g, n, k) })
			if got := graph.Above(g, n); !slices.Equal(got, above) {
				t.Fatalf("Above(%v, %d) = %v, not %v", g, n, got, above)
			}
			node := -1
			for _, k := range above {
				if g[k].Kind == api.Node {
					node = k
				}
			}
			if got := graph.Node(g, n); got != node {
				t.Fatalf("Node(%v, %d) = %d, not %d", g, n, got, node)
			}
		}
		if got, want := graph.Nodes(g), pick(len(g), func(k int) bool { return g[k].Kind == api.Node }); !slices.Equal(got, want) {
			t.Fatalf("Nodes(%v) = %v, not %v", g, got, want)
		}
	}
}

// P5.1: the same of a graph told by hand.
func TestSample(t *testing.T) {
	g := sample()
	for _, c := range []struct {
		n            int
		under, above []int
		node         int
	}{
		{0, span(0, 12), []int{0}, -1}, {1, []int{1, 2, 3, 7, 9, 10, 11}, []int{0, 1}, -1}, {2, []int{2, 3, 7, 10}, []int{0, 1, 2}, 2},
		{4, []int{4, 6}, []int{0, 4}, 4}, {5, []int{5, 8}, []int{0, 5}, -1}, {6, []int{6}, []int{0, 4, 6}, 4}, {8, []int{8}, []int{0, 5, 8}, 8},
		{10, []int{10}, []int{0, 1, 2, 10}, 2}, {11, []int{11}, []int{0, 1, 9, 11}, 9}, {12, []int{12}, []int{0, 12}, -1},
	} {
		under, above, node := graph.Under(g, c.n), graph.Above(g, c.n), graph.Node(g, c.n)
		if !slices.Equal(under, c.under) || !slices.Equal(above, c.above) || node != c.node {
			t.Errorf("of thing %d: Under %v, Above %v, Node %d", c.n, under, above, node)
		}
	}
	if got := graph.Nodes(g); !slices.Equal(got, []int{2, 4, 8, 9}) {
		t.Errorf("Nodes = %v", got)
	}
	if got := graph.Kinds(g, span(0, 255)); got != [5]int{1, 3, 4, 3, 2} {
		t.Errorf("Kinds of all = %v", got)
	}
	if got := graph.Kinds(g, []int{1, 2, 10, 11, 13, 200}); got != [5]int{0, 1, 1, 1, 1} {
		t.Errorf("Kinds of some = %v", got)
	}
	if got := graph.Whole(g, []int{6, 10}); !slices.Equal(got, []int{0, 1, 2, 4, 6, 10}) {
		t.Errorf("Whole = %v", got)
	}
}

// P5.1: nothing, and -1, of what is no thing.
func TestNoThing(t *testing.T) {
	for _, g := range graphs() {
		for _, n := range noThings(g) {
			if len(graph.Under(g, n)) > 0 || len(graph.Above(g, n)) > 0 || graph.Node(g, n) != -1 {
				t.Fatalf("of thing %d of %v: %v, %v, %d", n, g, graph.Under(g, n), graph.Above(g, n), graph.Node(g, n))
			}
		}
	}
}

// P5.2: how many things of a set there are of each kind; and all that they are part of, where all are things.
func TestKindsWhole(t *testing.T) {
	for _, g := range graphs() {
		for _, l := range sets(g) {
			var count [5]int
			things := true
			for _, n := range l {
				if n >= len(g) {
					things = false
					continue
				}
				count[g[n].Kind]++
			}
			if got := graph.Kinds(g, l); got != count {
				t.Fatalf("Kinds(%v, %v) = %v, not %v", g, l, got, count)
			}
			whole := pick(len(g), func(k int) bool {
				return things && slices.ContainsFunc(l, func(n int) bool { return isPart(g, n, k) })
			})
			if got := graph.Whole(g, l); !slices.Equal(got, whole) {
				t.Fatalf("Whole(%v, %v) = %v, not %v", g, l, got, whole)
			}
		}
	}
}

// P5.2: noughts and nothing of what is no set, though its numbers are those of things.
func TestNoSet(t *testing.T) {
	for _, g := range graphs() {
		for _, l := range noSets() {
			if got := graph.Kinds(g, l); got != [5]int{} {
				t.Fatalf("Kinds(%v, %v) = %v", g, l, got)
			}
			if got := graph.Whole(g, l); len(got) > 0 {
				t.Fatalf("Whole(%v, %v) = %v", g, l, got)
			}
		}
	}
}

// P5.1, P5.2: nothing, -1 and noughts of what is no graph.
func TestNoGraph(t *testing.T) {
	for _, g := range wrong() {
		if got := graph.Nodes(g); len(got) > 0 {
			t.Errorf("Nodes(%v) = %v", g, got)
		}
		for _, n := range append(noThings(g), span(0, 20)...) {
			if len(graph.Under(g, n)) > 0 || len(graph.Above(g, n)) > 0 || graph.Node(g, n) != -1 {
				t.Errorf("of thing %d of %v: %v, %v, %d", n, g, graph.Under(g, n), graph.Above(g, n), graph.Node(g, n))
			}
		}
		for _, l := range append(sets(sample()), noSets()...) {
			if graph.Kinds(g, l) != [5]int{} || len(graph.Whole(g, l)) > 0 {
				t.Errorf("of %v of %v: %v, %v", l, g, graph.Kinds(g, l), graph.Whole(g, l))
			}
		}
	}
}

// P5.3: each thing is in just those Unders that its Above tells; and the cluster's Under is all.
func TestUnderTellsAbove(t *testing.T) {
	for _, g := range graphs() {
		if got := graph.Under(g, 0); !slices.Equal(got, span(0, len(g)-1)) {
			t.Fatalf("Under(%v, 0) = %v", g, got)
		}
		in := make([][]int, len(g)) // in whose Unders each thing is
		for whole := range g {
			for _, n := range graph.Under(g, whole) {
				in[n] = append(in[n], whole)
			}
		}
		for n := range g {
			if got := graph.Above(g, n); !slices.Equal(got, in[n]) {
				t.Fatalf("Above(%v, %d) = %v, but it is in the Unders of %v", g, n, got, in[n])
			}
		}
	}
}

// Rule 3: what is handed in stays as it is, its spare room too, and an answer is new memory.
func TestMemory(t *testing.T) {
	room := plus(sample(), api.Thing{Kind: 9, Up: 9, Tag: "spare"})
	l := []int{3, 6, 11, -7}
	g, kept := room[:len(room)-1], slices.Clone(room)
	calls := []func() []int{
		func() []int { return graph.Under(g, 1) },
		func() []int { return graph.Above(g, 11) },
		func() []int { return graph.Nodes(g) },
		func() []int { return graph.Whole(g, l[:3]) },
	}
	for i, call := range calls {
		first := call()
		want := slices.Clone(first)
		for k := range first[:cap(first)] {
			first[:cap(first)][k] = -5
		}
		if second := call(); !slices.Equal(second, want) {
			t.Errorf("call %d: %v, and then %v", i, want, second)
		}
	}
	graph.Right(g)
	graph.Node(g, 11)
	graph.Kinds(g, l[:3])
	if !slices.Equal(room, kept) || !slices.Equal(l, []int{3, 6, 11, -7}) {
		t.Errorf("what was handed in has become %v, %v", room, l)
	}
}
