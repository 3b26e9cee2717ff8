package spec_test

import (
	"math"
	"strings"
	"testing"

	"bailiwick/api"
	"bailiwick/spec"
)

// P7.1: specs that may be.
func TestRight(t *testing.T) {
	for _, s := range append(specs(), good(), full(), api.Spec{Nodes: 1, Whole: true, Long: 1}, api.Spec{Nodes: 1, Cores: 1, Long: 1}, api.Spec{Nodes: 1, Gpus: 1, Long: 1}) {
		if !spec.Right(s) {
			t.Fatalf("Right(%+v) is false", s)
		}
	}
}

// P7.1: specs that may not be, since at one place there is what may not be.
func TestRightOfNone(t *testing.T) {
	for _, s := range wrong() {
		if spec.Right(s) {
			t.Errorf("Right(%+v) is true", s)
		}
	}
}

// P7.1: any number at any of two places; so a wrong one isn't made good by another one.
func TestRightOfPairs(t *testing.T) {
	check := func(s api.Spec, want bool) {
		if spec.Right(s) != want {
			t.Fatalf("Right(%+v) is %v", s, !want)
		}
	}
	for i, n := range append(nodes(), noNodes()...) {
		for j, c := range append(parts(), noParts()...) {
			for k, g := range append(parts(), noParts()...) {
				inside := i < len(nodes()) && j < len(parts()) && k < len(parts())
				check(api.Spec{Nodes: n, Cores: c, Gpus: g, Long: 1}, inside && (c != 0 || g != 0))
				check(api.Spec{Nodes: n, Cores: c, Gpus: g, Long: 1, Whole: true}, inside)
			}
		}
		for j, long := range append(longs(), noLongs()...) {
			for k, prio := range append(prios(), noPrios()...) {
				inside := i < len(nodes()) && j < len(longs()) && k < len(prios())
				check(api.Spec{Nodes: n, Cores: 1, Long: long, Prio: prio}, inside)
				check(api.Spec{Nodes: n, Gpus: 64, Long: long, Prio: prio, Tag: "fast"}, inside)
				check(api.Spec{Nodes: n, Gpus: 64, Long: long, Prio: prio, Tag: "Fast"}, false)
			}
		}
	}
}

// P7.1: all numbers near the bounds, one by one.
func TestRightNearBounds(t *testing.T) {
	for n := -1100; n <= 1100; n++ {
		for _, c := range []struct {
			s    api.Spec
			want bool
		}{
			{api.Spec{Nodes: n, Cores: 1, Long: 1}, n >= 1 && n <= 64},
			{api.Spec{Nodes: 1, Cores: n, Long: 1}, n >= 1 && n <= 64},
			{api.Spec{Nodes: 1, Cores: n, Gpus: 1, Long: 1}, n >= 0 && n <= 64},
			{api.Spec{Nodes: 1, Cores: n, Whole: true, Long: 1}, n >= 0 && n <= 64},
			{api.Spec{Nodes: 1, Gpus: n, Long: 1}, n >= 1 && n <= 64},
			{api.Spec{Nodes: 1, Gpus: n, Cores: 1, Long: 1}, n >= 0 && n <= 64},
			{api.Spec{Nodes: 1, Gpus: n, Whole: true, Long: 1}, n >= 0 && n <= 64},
			{api.Spec{Nodes: 1, Cores: 1, Long: int64(n)}, n >= 1},
			{api.Spec{Nodes: 1, Cores: 1, Long: 1<<40 + int64(n)}, n <= 0},
			{api.Spec{Nodes: 1, Cores: 1, Long: 1, Prio: n}, n >= -1000 && n <= 1000},
		} {
			if spec.Right(c.s) != c.want {
				t.Fatalf("Right(%+v) is %v", c.s, !c.want)
			}
		}
	}
}

// P7.1: the tag is one that a node may have, or none.
func TestRightTags(t *testing.T) {
	check := func(tag string, want bool) {
		for _, whole := range []bool{false, true} {
			if spec.Right(api.Spec{Nodes: 2, Cores: 3, Tag: tag, Whole: whole, Long: 5}) != want {
				t.Errorf("Right with the tag %q is %v", tag, !want)
			}
		}
	}
	for _, tag := range tags() {
		check(tag, true)
	}
	for _, tag := range noTags() {
		check(tag, false)
	}
	for b := range 256 {
		may := b >= 'a' && b <= 'z' || b >= '0' && b <= '9'
		one := string([]byte{byte(b)})
		for size := range 18 {
			check(strings.Repeat("x", size)+one, may && size < 16)
			check(one+strings.Repeat("0", size), may && size < 16)
		}
	}
}

// P7.1: how much in all.
func TestAsks(t *testing.T) {
	for _, c := range []struct {
		s              api.Spec
		n, cores, gpus int
	}{
		{good(), 2, 6, 2}, // the document's example
		{full(), 64, 4096, 4096},
		{api.Spec{Nodes: 1, Cores: 1, Long: 1}, 1, 1, 0},
		{api.Spec{Nodes: 1, Gpus: 1, Long: 1}, 1, 0, 1},
		{api.Spec{Nodes: 3, Whole: true, Long: 1}, 3, 0, 0},
		{api.Spec{Nodes: 3, Whole: true, Cores: 2, Long: 1}, 3, 6, 0},
		{api.Spec{Nodes: 64, Gpus: 64, Long: 1 << 40}, 64, 0, 4096},
		{api.Spec{Nodes: 63, Cores: 64, Gpus: 1, Long: 9, Prio: -1000}, 63, 4032, 63},
	} {
		if n, cores, gpus := spec.Asks(c.s); n != c.n || cores != c.cores || gpus != c.gpus {
			t.Errorf("Asks(%+v) = %d, %d, %d", c.s, n, cores, gpus)
		}
	}
	for _, s := range specs() {
		wantN, wantCores, wantGpus := sums(s)
		if n, cores, gpus := spec.Asks(s); n != wantN || cores != wantCores || gpus != wantGpus {
			t.Fatalf("Asks(%+v) = %d, %d, %d", s, n, cores, gpus)
		}
	}
}

// P7.1: noughts of one that may not be.
func TestAsksOfNone(t *testing.T) {
	for _, s := range wrong() {
		if n, cores, gpus := spec.Asks(s); n != 0 || cores != 0 || gpus != 0 {
			t.Errorf("Asks(%+v) = %d, %d, %d", s, n, cores, gpus)
		}
	}
}

// P7.1: when it ends, by what the document says of when.Plus.
func TestEnds(t *testing.T) {
	for _, c := range []struct{ long, from, want int64 }{
		{5, 10, 15}, {5, 0, 5}, {1, 0, 1}, {1 << 40, 1, 1<<40 + 1}, {5, -4, 5}, {5, math.MinInt64, 5},
		{5, api.Never, api.Never}, {5, api.Never - 5, api.Never}, {5, api.Never - 6, api.Never - 1}, {5, api.Never - 4, api.Never},
		{1 << 40, api.Never - 1<<40 - 1, api.Never - 1}, {1, api.Never + 1, api.Never}, {1 << 40, math.MaxInt64, api.Never},
	} {
		if got := spec.Ends(api.Spec{Nodes: 1, Cores: 1, Long: c.long}, c.from); got != c.want {
			t.Errorf("Ends of one that is %d long, begun at %d: %d, not %d", c.long, c.from, got, c.want)
		}
	}
	for _, long := range longs() {
		s := full()
		s.Long = long
		for _, from := range times() {
			if got := spec.Ends(s, from); got != later(from, long) {
				t.Errorf("Ends(%+v, %d) = %d, not %d", s, from, got, later(from, long))
			}
		}
	}
}

// P7.1: the nearest time, of one that may not be, however long it is.
func TestEndsOfNone(t *testing.T) {
	for _, s := range wrong() {
		for _, from := range times() {
			if got := spec.Ends(s, from); got != later(from, 0) {
				t.Errorf("Ends(%+v, %d) = %d, not %d", s, from, got, later(from, 0))
			}
		}
	}
}

// P7.2: who is ahead, the first one of these always, of two that may be.
func TestAhead(t *testing.T) {
	for i, c := range []struct{ first, behind api.Spec }{
		{api.Spec{Nodes: 64, Cores: 64, Gpus: 64, Long: 1 << 40, Prio: 1}, api.Spec{Nodes: 1, Cores: 1, Long: 1}},                     // Prio is asked first
		{api.Spec{Nodes: 64, Cores: 64, Long: 1 << 40, Prio: -999}, api.Spec{Nodes: 1, Cores: 1, Long: 1, Prio: -1000}},               // below 0 too
		{api.Spec{Nodes: 2, Cores: 2, Long: 1 << 40}, api.Spec{Nodes: 2, Cores: 3, Long: 1}},                                          // then cores and gpus,
		{api.Spec{Nodes: 2, Gpus: 2, Long: 9}, api.Spec{Nodes: 2, Gpus: 3, Long: 1}},                                                  // each of these two,
		{api.Spec{Nodes: 2, Cores: 3, Gpus: 1, Long: 9}, api.Spec{Nodes: 2, Cores: 1, Gpus: 4, Long: 1}},                              // both together,
		{api.Spec{Nodes: 2, Cores: 1, Gpus: 3, Long: 9}, api.Spec{Nodes: 2, Cores: 4, Gpus: 1, Long: 1}},                              // neither more than the other,
		{api.Spec{Nodes: 2, Cores: 4, Long: 9}, api.Spec{Nodes: 3, Cores: 3, Long: 1}},                                                // of all nodes,
		{api.Spec{Nodes: 3, Cores: 2, Long: 9}, api.Spec{Nodes: 1, Cores: 7, Long: 1}},                                                // not of how many nodes
		{api.Spec{Nodes: 64, Whole: true, Long: 9}, api.Spec{Nodes: 1, Cores: 1, Long: 1}},                                            // of what is asked for, not of what is got
		{api.Spec{Nodes: 2, Cores: 3, Long: 4, Tag: "z", Whole: true}, api.Spec{Nodes: 2, Cores: 3, Long: 5}},                         // then Long
		{api.Spec{Nodes: 6, Cores: 1, Long: 1<<40 - 1, Prio: 1000}, api.Spec{Nodes: 1, Cores: 1, Gpus: 5, Long: 1 << 40, Prio: 1000}}, // great ones too
	} {
		if !spec.Ahead(c.first, c.behind) || spec.Ahead(c.behind, c.first) {
			t.Errorf("%d: Ahead is %v, and the other way round %v", i, spec.Ahead(c.first, c.behind), spec.Ahead(c.behind, c.first))
		}
	}
}

// P7.2: all against all, as the document tells it.
func TestAheadOfAll(t *testing.T) {
	l := specs()
	for i, a := range l {
		for k := i % 3; k < len(l); k += 3 {
			if got := spec.Ahead(a, l[k]); got != urgent(a, l[k]) {
				t.Fatalf("Ahead(%+v, %+v) is %v", a, l[k], got)
			}
		}
	}
}

// P7.2: false, if one of them may not be, whichever it is, how urgent ever the other one.
func TestAheadOfNone(t *testing.T) {
	for _, s := range wrong() {
		for _, other := range append(wrong(), good(), full(), api.Spec{Nodes: 1, Whole: true, Long: 1, Prio: 1000}, api.Spec{Nodes: 64, Cores: 64, Gpus: 64, Long: 1 << 40, Prio: -1000}) {
			if spec.Ahead(s, other) || spec.Ahead(other, s) {
				t.Fatalf("Ahead of %+v and %+v: %v, and the other way round %v", s, other, spec.Ahead(s, other), spec.Ahead(other, s))
			}
		}
	}
}

// P7.2: so many nodes less, and all else as it was, down to the last node.
func TestPart(t *testing.T) {
	for _, s := range append(specs(), good(), full()) {
		for n := range s.Nodes {
			want := s
			want.Nodes = s.Nodes - n
			if p, e := spec.Part(s, n); p != want || e != api.OK {
				t.Fatalf("Part(%+v, %d) = %+v, %v", s, n, p, e)
			}
		}
	}
}

// P7.2: no spec beside an error: ErrNone, if no node would be left; ErrArg, ahead of it, of a spec that may not be, or of a number below 0.
func TestPartOfNone(t *testing.T) {
	wants := func(s api.Spec, n int, want api.Errno) {
		if p, e := spec.Part(s, n); p != (api.Spec{}) || e != want {
			t.Fatalf("Part(%+v, %d) = %+v, %v, not %v", s, n, p, e, want)
		}
	}
	for _, s := range append(specs(), good(), full()) {
		for _, n := range []int{s.Nodes, s.Nodes + 1, 65, 1000, 1 << 32, 1<<32 + 1, math.MaxInt} {
			wants(s, n, api.ErrNone)
		}
		for _, n := range []int{-1, -2, -s.Nodes, -64, -1 << 32, math.MinInt + 1, math.MinInt} {
			wants(s, n, api.ErrArg)
		}
	}
	for _, s := range wrong() {
		for _, n := range []int{0, 1, 2, 63, 64, 65, s.Nodes - 1, s.Nodes, -1, math.MaxInt, math.MinInt} {
			wants(s, n, api.ErrArg)
		}
	}
}

// P7.3: Ahead is an order: nobody is ahead of himself, of two only one is, and who is ahead of one is ahead of whom that is ahead of.
func TestAheadIsAnOrder(t *testing.T) {
	l := some()
	for _, a := range l {
		if spec.Ahead(a, a) {
			t.Fatalf("%+v is ahead of itself", a)
		}
		for _, b := range l {
			ab, ba := spec.Ahead(a, b), spec.Ahead(b, a)
			if ab && ba {
				t.Fatalf("each is ahead of the other: %+v, %+v", a, b)
			}
			for _, c := range l {
				bc, cb, ac, ca := spec.Ahead(b, c), spec.Ahead(c, b), spec.Ahead(a, c), spec.Ahead(c, a)
				if ab && bc && !ac || !ab && !ba && !bc && !cb && (ac || ca) {
					t.Fatalf("no order: %+v, %+v, %+v", a, b, c)
				}
			}
		}
	}
}

// some specs are few of each kind, so that three of them can be asked of each other.
func some() []api.Spec {
	var out []api.Spec
	for _, s := range []api.Spec{{Nodes: 1, Cores: 6}, {Nodes: 2, Cores: 3}, {Nodes: 3, Gpus: 2}, {Nodes: 2, Cores: 1, Gpus: 2}, {Nodes: 7, Gpus: 1}, {Nodes: 5, Cores: 1}, {Nodes: 9, Whole: true}} {
		for _, long := range []int64{1, 5, 1 << 40} {
			for _, prio := range []int{-1, 0, 1000} {
				s.Long, s.Prio = long, prio
				out = append(out, s)
			}
		}
	}
	return out
}

// P7.3: of those that are alike in Prio, in cores and gpus in all and in Long neither is ahead; of all others one is.
func TestAheadOfAlike(t *testing.T) {
	l := []api.Spec{
		{Nodes: 1, Cores: 12, Long: 5}, {Nodes: 2, Cores: 6, Long: 5}, {Nodes: 3, Cores: 4, Long: 5, Tag: "fast"}, {Nodes: 12, Cores: 1, Long: 5, Whole: true},
		{Nodes: 1, Gpus: 12, Long: 5, Whole: true, Tag: "a"}, {Nodes: 3, Gpus: 4, Long: 5}, {Nodes: 2, Cores: 3, Gpus: 3, Long: 5}, {Nodes: 2, Cores: 1, Gpus: 5, Long: 5, Tag: "z"},
	}
	for _, a := range l {
		for _, b := range l {
			if spec.Ahead(a, b) {
				t.Errorf("Ahead(%+v, %+v) is true", a, b)
			}
		}
	}
	for _, a := range some() {
		for _, b := range some() {
			_, aCores, aGpus := sums(a)
			_, bCores, bGpus := sums(b)
			alike := a.Prio == b.Prio && aCores+aGpus == bCores+bGpus && a.Long == b.Long
			if neither := !spec.Ahead(a, b) && !spec.Ahead(b, a); neither != alike {
				t.Fatalf("%+v and %+v: neither is ahead: %v", a, b, neither)
			}
		}
	}
}

// P7.3: what a part asks for is less than what the whole does, by as many nodes; and it may be, and ends at the same time.
func TestPartAsksLess(t *testing.T) {
	for _, s := range append(specs(), good(), full()) {
		n, cores, gpus := spec.Asks(s)
		for less := range s.Nodes {
			p, e := spec.Part(s, less)
			pn, pcores, pgpus := spec.Asks(p)
			if e != api.OK || !spec.Right(p) || n-pn != less || cores-pcores != less*s.Cores || gpus-pgpus != less*s.Gpus {
				t.Fatalf("Part(%+v, %d) asks for %d, %d, %d", s, less, pn, pcores, pgpus)
			}
			if spec.Ends(p, 7) != spec.Ends(s, 7) {
				t.Fatalf("Part(%+v, %d) ends at %d", s, less, spec.Ends(p, 7))
			}
		}
	}
}
