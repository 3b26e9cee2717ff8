package pipe_test

import (
	"math"
	"testing"

	"bailiwick/api"
	"bailiwick/pipe"
)

// P17.1: packets told by hand.
func TestFine(t *testing.T) {
	for _, c := range []struct {
		x    api.Packet
		want bool
	}{
		{api.Packet{}, true}, {api.Packet{Seq: 1}, true}, {api.Packet{Ack: 1}, true}, {api.Packet{Epoch: 1}, true},
		{api.Packet{Seq: 1, Body: []byte{1}}, true}, {api.Packet{Seq: 1, Body: []byte{}}, true}, {api.Packet{Seq: 0, Body: []byte{}}, true},
		{api.Packet{Epoch: most, Seq: most, Ack: most, Body: long(4096)}, true}, {api.Packet{Epoch: most, Ack: most}, true},
		{api.Packet{Seq: 1, Body: long(4097)}, false}, {api.Packet{Seq: most, Body: long(9999)}, false},
		{api.Packet{Body: []byte{1}}, false}, {api.Packet{Body: long(4096)}, false}, {api.Packet{Body: long(4097)}, false}, {api.Packet{Ack: 1, Body: []byte{0}}, false},
		{api.Packet{Epoch: -1}, false}, {api.Packet{Seq: -1}, false}, {api.Packet{Ack: -1}, false},
		{api.Packet{Epoch: most + 1}, false}, {api.Packet{Seq: most + 1}, false}, {api.Packet{Ack: most + 1}, false},
	} {
		if got := pipe.Fine(c.x); got != c.want {
			t.Errorf("Fine(%d %d %d, %d bytes) = %v", c.x.Epoch, c.x.Seq, c.x.Ack, len(c.x.Body), got)
		}
	}
}

// P17.1: packets of all numbers at, about and far beyond each bound, with bodies of all lengths about theirs.
func TestFineOfAll(t *testing.T) {
	numbers := append(beyond(0), 0, 1, 2, 4096, 4097, most/2, most-1, most)
	for _, n := range []int{0, 1, 2, 4095, 4096, 4097, 4098, 8192, 70000} {
		b := long(n)
		for _, epoch := range numbers {
			for _, seq := range numbers {
				for _, ack := range numbers {
					x := api.Packet{Epoch: epoch, Seq: seq, Ack: ack, Body: b}
					if got := pipe.Fine(x); got != fine(x) {
						t.Fatalf("Fine(%d %d %d, %d bytes) = %v", epoch, seq, ack, n, got)
					}
				}
			}
		}
	}
}

// P17.1: an end that has said and heard nothing, of each epoch that may be.
func TestNew(t *testing.T) {
	for _, epoch := range []int{0, 1, 2, 1000, most - 1, most} {
		p, e := pipe.New(epoch)
		if e != api.OK || !equal(p, api.Pipe{Epoch: epoch, Next: 1, Want: 1}) || !pipe.Right(p) {
			t.Errorf("New(%d) = %+v, %v", epoch, p, e)
		}
	}
	for _, epoch := range beyond(0) {
		p, e := pipe.New(epoch)
		if e != api.ErrArg || !equal(p, api.Pipe{}) {
			t.Errorf("New(%d) = %+v, %v", epoch, p, e)
		}
	}
}

// P17.1: ends told by hand.
func TestRight(t *testing.T) {
	one := func(epoch, seq, ack int, b []byte) []api.Packet {
		return []api.Packet{{Epoch: epoch, Seq: seq, Ack: ack, Body: b}}
	}
	for _, c := range []struct {
		p    api.Pipe
		want bool
	}{
		{api.Pipe{}, false}, {api.Pipe{Next: 1}, false}, {api.Pipe{Want: 1}, false}, {api.Pipe{Next: 1, Want: 1}, true},
		{api.Pipe{Epoch: most, Next: most, Want: most}, true}, {api.Pipe{Epoch: most + 1, Next: most, Want: most}, false},
		{api.Pipe{Epoch: most, Next: most + 1, Want: most}, false}, {api.Pipe{Epoch: most, Next: most, Want: most + 1}, false},
		{api.Pipe{Epoch: -1, Next: 1, Want: 1}, false}, {api.Pipe{Next: -1, Want: 1}, false}, {api.Pipe{Next: 1, Want: -1}, false},
		{api.Pipe{Next: 2, Want: 1, Out: one(0, 1, 0, nil)}, true}, {api.Pipe{Next: 2, Want: 1, Out: one(0, 1, 0, long(4096))}, true},
		{api.Pipe{Next: 2, Want: 1, Out: one(0, 1, 0, long(4097))}, false}, {api.Pipe{Next: 2, Want: 1, Out: one(1, 1, 0, nil)}, false},
		{api.Pipe{Next: 2, Want: 9, Out: one(0, 1, 1, nil)}, false}, {api.Pipe{Next: 2, Want: 1, Out: one(0, 1, -1, nil)}, false},
		{api.Pipe{Next: 2, Want: 1, Out: one(0, 2, 0, nil)}, false}, {api.Pipe{Next: 2, Want: 1, Out: one(0, 0, 0, nil)}, false},
		{api.Pipe{Next: 1, Want: 1, Out: one(0, 0, 0, nil)}, false}, {api.Pipe{Next: 1, Want: 1, Out: one(0, 1, 0, nil)}, false},
		{end(3, 17, 16, 1), true}, {end(3, 18, 17, 1), false}, {end(3, 18, 16, 1), true}, {end(3, 16, 16, 1), false},
		{end(most, most, 16, most), true}, {end(most, most+1, 16, most), false},
	} {
		if got := pipe.Right(c.p); got != c.want {
			t.Errorf("Right(%+v) = %v", c.p, got)
		}
	}
}

// P17.1: all ends of up to three packets of small numbers, right ones and wrong ones.
func TestRightOfAllSmall(t *testing.T) {
	many := 0
	all := func(p api.Pipe) {
		for _, p.Epoch = range []int{0, 1} {
			for _, p.Next = range []int{-1, 0, 1, 2, 3, 4, 5} {
				for _, p.Want = range []int{0, 1, 2} {
					if got := pipe.Right(p); got != right(p) {
						t.Fatalf("Right(%+v) = %v", p, got)
					} else if got {
						many++
					}
				}
			}
		}
	}
	level := [][]api.Packet{nil}
	for range 3 {
		var next [][]api.Packet
		for _, l := range level {
			all(api.Pipe{Out: l})
			for n := range 2 * 7 * 2 {
				next = append(next, append(l[:len(l):len(l)], api.Packet{Epoch: n % 2, Seq: n/2%7 - 1, Ack: n / 14}))
			}
		}
		level = next
	}
	for _, l := range level {
		all(api.Pipe{Out: l})
	}
	if want := 2 * 2 * (5 + 4 + 3 + 2); many != want {
		t.Errorf("%d are right, not %d", many, want)
	}
}

// P17.1: ends at their bounds, and all that are wrong at one place of them alone.
func TestRightOfEnds(t *testing.T) {
	for _, p := range ends() {
		if !right(p) || !pipe.Right(p) {
			t.Fatalf("Right(%+v) = %v", p, pipe.Right(p))
		}
		for _, q := range wrongs(p) {
			if right(q) || pipe.Right(q) {
				t.Fatalf("Right(%+v) = %v", q, pipe.Right(q))
			}
		}
	}
}

// P17.1, P17.2: of an end that isn't right nothing is told, and it stays as it is, whatever else is wrong.
func TestWrongEnds(t *testing.T) {
	words := [][]byte{nil, {1, 2}, long(4096), long(4097)}
	for _, p := range ends() {
		for i, q := range wrongs(p) {
			if got, e := pipe.Say(q, words[i%len(words)]); e != api.ErrArg || !equal(got, q) {
				t.Fatalf("Say of %+v: %+v, %v", q, got, e)
			}
			if l := pipe.Goes(q); len(l) != 0 {
				t.Fatalf("Goes(%+v) = %+v", q, l)
			}
			for _, x := range []api.Packet{{Epoch: q.Epoch, Seq: q.Want, Ack: q.Next, Body: []byte{7}}, {Epoch: p.Epoch, Seq: p.Want, Ack: most}, {Seq: math.MinInt}} {
				if got, b, ok := pipe.Come(q, x); ok || len(b) != 0 || !equal(got, q) {
					t.Fatalf("Come(%+v, %+v) = %+v, %v, %v", q, x, got, b, ok)
				}
			}
		}
	}
}
