package pipe_test

import (
	"bytes"
	"slices"
	"strings"
	"testing"

	"bailiwick/api"
	"bailiwick/pipe"
)

// side is an end, all that it has said and was told, and all that ever went from it: of this each may come, at any time, never or many times.
type side struct {
	end        api.Pipe
	said, told [][]byte
	way        []api.Packet
}

// pair are two ends that speak with one another.
type pair [2]side

// begun is a pair whose words have these numbers next.
func begun(epoch, first, second int) pair {
	return pair{{end: api.Pipe{Epoch: epoch, Next: first, Want: second}}, {end: api.Pipe{Epoch: epoch, Next: second, Want: first}}}
}

// say is the pair behind a word of one of them, and whether it was said.
func (p pair) say(k int, b []byte) (pair, bool) {
	q, e := pipe.Say(p[k].end, b)
	p[k].end = q
	if e == api.OK {
		p[k].said = append(slices.Clip(p[k].said), b)
	}
	return p, e == api.OK
}

// send is the pair when what goes from one of them is on its way.
func (p pair) send(k int) pair {
	for _, x := range pipe.Goes(p[k].end) {
		if !slices.ContainsFunc(p[k].way, func(y api.Packet) bool { return alike(x, y) }) {
			p[k].way = append(slices.Clip(p[k].way), x)
		}
	}
	return p
}

// come is the pair when a packet comes to one of them.
func (p pair) come(k int, x api.Packet) pair {
	q, b, ok := pipe.Come(p[k].end, x)
	p[k].end = q
	if ok {
		p[k].told = append(slices.Clip(p[k].told), b)
	}
	return p
}

// key tells the whole pair; what is on its way in any order.
func (p pair) key() string {
	var b []byte
	packet := func(x api.Packet) { b = append(b, byte(x.Seq), byte(x.Ack), byte(len(x.Body))) }
	for _, s := range p {
		b = append(b, byte(s.end.Next), byte(s.end.Want), byte(len(s.end.Out)), byte(len(s.told)))
		l := slices.SortedFunc(slices.Values(s.way), func(x, y api.Packet) int { return (x.Seq-y.Seq)*1000 + x.Ack - y.Ack })
		for _, x := range l {
			packet(x)
		}
		b = append(b, 255)
	}
	return string(b)
}

// holds tells where what a side was told is no beginning of what the other one said, or where one doesn't keep what the other one wasn't told.
func (p pair) holds(t *testing.T) {
	t.Helper()
	for k, s := range p {
		o := p[1-k]
		if !pipe.Right(s.end) {
			t.Fatalf("no end: %+v", s.end)
		}
		if len(s.told) > len(o.said) || !slices.EqualFunc(s.told, o.said[:len(s.told)], bytes.Equal) {
			t.Fatalf("told %q of %q", s.told, o.said)
		}
		// What it keeps is the end of what it said, and all that the other one wasn't told is in it.
		kept := len(s.end.Out)
		if kept > len(s.said) || kept < len(s.said)-len(o.told) {
			t.Fatalf("of %d words %d are told, and %d kept", len(s.said), len(o.told), kept)
		}
		for i, b := range s.said[len(s.said)-kept:] {
			if !bytes.Equal(b, s.end.Out[i].Body) {
				t.Fatalf("said %q, kept %q", b, s.end.Out[i].Body)
			}
		}
	}
}

// settled is the pair when so often all comes that goes, in an order by each time.
func (p pair) settled(rounds int, order func(l []api.Packet)) pair {
	for range rounds {
		for k := range p {
			l := pipe.Goes(p[k].end)
			order(l)
			for _, x := range l {
				p = p.come(1-k, x)
			}
		}
	}
	return p
}

// ended tells where not all that was said is told, and known to be.
func (p pair) ended(t *testing.T) {
	t.Helper()
	p.holds(t)
	for k, s := range p {
		if len(s.told) != len(p[1-k].said) || len(s.end.Out) > 0 {
			t.Fatalf("told %d of %d words; %d are kept", len(s.told), len(p[1-k].said), len(s.end.Out))
		}
	}
}

// inOrder lets packets come as they went.
func inOrder([]api.Packet) {}

// next are the pairs that p can become by one thing that is done; of each side so many words may be said.
func (p pair) next(words [2]int) []pair {
	var l []pair
	for k, s := range p {
		if n := len(s.said); n < words[k] {
			q, _ := p.say(k, long(n+k)) // the first one's first word is empty
			l = append(l, q)
		}
		l = append(l, p.send(k))
		for _, x := range p[1-k].way {
			l = append(l, p.come(k, x))
		}
	}
	return l
}

// P17.3: all that can become of two ends by a few words, whatever of all that ever went comes, and when.
func TestAllWays(t *testing.T) {
	for _, words := range [][2]int{{3, 0}, {1, 1}, {2, 1}, {2, 2}, {3, 2}} {
		start := begun(0, 1, 1)
		seen := map[string]bool{start.key(): true}
		done := 0
		for todo := []pair{start}; len(todo) > 0; todo = todo[1:] {
			p := todo[0]
			p.holds(t)
			p.settled(2, inOrder).ended(t)
			p.settled(4, slices.Reverse[[]api.Packet]).ended(t)
			if len(p[0].told) == words[1] && len(p[1].told) == words[0] {
				done++
			}
			for _, q := range p.next(words) {
				if key := q.key(); !seen[key] {
					seen[key] = true
					todo = append(todo, q)
				}
			}
		}
		if done == 0 {
			t.Errorf("%v: of %d none is told all", words, len(seen))
		}
	}
}

// walk lets so many things be done with a pair, at a net that loses, doubles and mixes; foreign packets come in between.
func walk(t *testing.T, p pair, steps int, roll func(n int) int, foreign []api.Packet) pair {
	t.Helper()
	var net [2][]api.Packet
	for range steps {
		k := roll(2)
		switch at := len(net[k]); {
		case roll(3) == 0:
			p, _ = p.say(k, long(roll(4)*roll(40)))
		case roll(9) == 0 && len(foreign) > 0:
			p = p.come(k, foreign[roll(len(foreign))])
		case roll(3) == 0 && len(net[1-k]) < 20:
			net[1-k] = append(net[1-k], pipe.Goes(p[k].end)...)
		case at > 0:
			at = min(roll(at), roll(at)) // mixed, but what went first comes rather first
			if roll(4) > 0 {
				p = p.come(k, net[k][at])
			}
			if roll(4) > 0 { // or else it comes once more
				net[k] = slices.Delete(net[k], at, at+1)
			}
		}
		p.holds(t)
	}
	return p
}

// P17.3: long talks at a net that loses, doubles and mixes, till all that goes comes.
func TestTalks(t *testing.T) {
	told := 0
	for seed := range 60 {
		roll := dice(seed)
		p := walk(t, begun(seed%3, 1, 1), 6000, roll, nil)
		told = max(told, min(len(p[0].told), len(p[1].told)))
		p.settled(2, inOrder).ended(t)
		p.settled(40, slices.Reverse[[]api.Packet]).ended(t)
		p.settled(60, func(l []api.Packet) {
			for i := range l {
				k := roll(i + 1)
				l[i], l[k] = l[k], l[i]
			}
		}).ended(t)
	}
	if told < 40 {
		t.Errorf("at most %d words were told", told)
	}
}

// P17.3: packets of other epochs say nothing here.
func TestTalksOfTwoEpochs(t *testing.T) {
	for seed := range 20 {
		var foreign []api.Packet
		for _, epoch := range []int{0, 1, 3, most} {
			for n := range 40 {
				foreign = append(foreign, api.Packet{Epoch: epoch, Seq: 1 + n%20, Ack: n, Body: []byte("foreign")})
			}
		}
		p := walk(t, begun(2, 1, 1), 400, dice(seed), foreign)
		for _, x := range foreign {
			p = p.come(0, x).come(1, x)
			p.holds(t)
		}
		p.settled(2, inOrder).ended(t)
	}
}

// P17.3: at the numbers' end: all up to the last word is told, and then nothing is said any more.
func TestTalksAtTheEnd(t *testing.T) {
	for seed := range 20 {
		p := walk(t, begun(most, most-seed, most-40), 400, dice(seed), nil).settled(2, inOrder)
		p.ended(t)
		for range 41 {
			p, _ = p.say(0, []byte{1})
			p, _ = p.say(1, []byte{2})
			p = p.settled(1, inOrder)
			p.holds(t)
		}
		p = p.settled(1, inOrder)
		p.ended(t)
		if len(p[0].told) != 40 || len(p[1].told) != seed {
			t.Errorf("told %d of 40 words, and %d of %d", len(p[0].told), len(p[1].told), seed)
		}
		for k := range p {
			if q, e := pipe.Say(p[k].end, nil); e != api.ErrOver || !equal(q, p[k].end) || q.Next != most || q.Want != most {
				t.Errorf("behind the last word: %+v, %v", q, e)
			}
		}
	}
}

// P17.3: one who speaks on while nothing comes back is told full, and all that was said still comes.
func TestTalksOfOne(t *testing.T) {
	p := begun(0, 1, 1)
	var words []string
	for n := range 100 {
		q, ok := p.say(0, long(n))
		for !ok {
			p = p.settled(1, inOrder)
			q, ok = p.say(0, long(n))
		}
		p = q
		words = append(words, string(long(n)))
	}
	p = p.settled(2, inOrder)
	p.ended(t)
	if got := string(bytes.Join(p[1].told, nil)); got != strings.Join(words, "") || len(p[1].told) != 100 {
		t.Errorf("told %d words, %d bytes", len(p[1].told), len(got))
	}
}
