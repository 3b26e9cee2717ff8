package pipe_test

import (
	"bytes"
	"testing"

	"bailiwick/api"
	"bailiwick/pipe"
)

// P17.1: words said one behind the other, each told by hand.
func TestSay(t *testing.T) {
	p, _ := pipe.New(4)
	p.Want = 7 // what was heard says nothing of what is said
	for n, b := range [][]byte{{1, 2}, nil, {1, 2}, {}, long(4096), {0}} {
		was := p
		got, e := pipe.Say(p, b)
		if e != api.OK || got.Epoch != 4 || got.Next != n+2 || got.Want != 7 || len(got.Out) != n+1 {
			t.Fatalf("word %d: %+v, %v", n+1, got, e)
		}
		if !alike(got.Out[n], api.Packet{Epoch: 4, Seq: n + 1, Ack: 0, Body: b}) {
			t.Fatalf("word %d: %+v", n+1, got.Out[n])
		}
		for i, o := range was.Out {
			if !alike(o, got.Out[i]) {
				t.Fatalf("word %d: %+v isn't %+v", n+1, got.Out[i], o)
			}
		}
		p = got
	}
}

// P17.1: 16 words have room, and again as many as have come.
func TestSayFull(t *testing.T) {
	p, _ := pipe.New(0)
	for n := range 16 {
		q, e := pipe.Say(p, word(n))
		if e != api.OK {
			t.Fatalf("word %d: %v", n+1, e)
		}
		p = q
	}
	if q, e := pipe.Say(p, nil); e != api.ErrFull || !equal(q, p) {
		t.Fatalf("%+v, %v", q, e)
	}
	p, _, _ = pipe.Come(p, api.Packet{Ack: 3})
	for n := range 3 {
		q, e := pipe.Say(p, word(n))
		if e != api.OK || q.Next != 18+n || q.Out[len(q.Out)-1].Seq != 17+n {
			t.Fatalf("word %d: %+v, %v", 17+n, q, e)
		}
		p = q
	}
	if q, e := pipe.Say(p, nil); e != api.ErrFull || !equal(q, p) {
		t.Fatalf("%+v, %v", q, e)
	}
}

// P17.1: the last number is 2^30 - 1.
func TestSayOver(t *testing.T) {
	for out := range 16 {
		p, e := pipe.Say(end(9, most-1, out, 1), []byte{5})
		if e != api.OK || p.Next != most || !alike(p.Out[out], api.Packet{Epoch: 9, Seq: most - 1, Body: []byte{5}}) || !pipe.Right(p) {
			t.Fatalf("%+v, %v", p, e)
		}
		q, e := pipe.Say(p, []byte{6})
		if want := map[bool]api.Errno{false: api.ErrOver, true: api.ErrFull}[out == 15]; e != want || !equal(q, p) {
			t.Fatalf("behind the last word: %+v, %v, not %v", q, e, want)
		}
		q, _, _ = pipe.Come(p, api.Packet{Epoch: 9, Ack: most})
		if r, e := pipe.Say(q, []byte{6}); e != api.ErrOver || len(r.Out) != 0 || !equal(r, q) {
			t.Fatalf("when all has come: %+v, %v", r, e)
		}
	}
}

// P17.1: of several errors the first is told: each with each.
func TestSayFirstError(t *testing.T) {
	for n := range 16 {
		wrong, tooLong, full, over := n&8 > 0, n&4 > 0, n&2 > 0, n&1 > 0
		next, out, b := most-1, 15, long(4096)
		want := api.OK
		if over {
			next, want = most, api.ErrOver
		}
		if full {
			out, want = 16, api.ErrFull
		}
		if tooLong {
			b, want = long(4097), api.ErrLong
		}
		p := end(2, next, out, 3)
		if wrong {
			p.Out[4].Ack, want = 1, api.ErrArg
		}
		got, e := pipe.Say(p, b)
		if e != want || e != api.OK && !equal(got, p) || e == api.OK && got.Next != most {
			t.Errorf("wrong %v, too long %v, full %v, over %v: %v, not %v", wrong, tooLong, full, over, e, want)
		}
	}
}

// P17.1: all ends, with words of all lengths about the bound.
func TestSayOfAll(t *testing.T) {
	var words [][]byte
	for _, n := range []int{0, 1, 2, 255, 256, 4095, 4096, 4097, 4098, 8192, 65536 + 9} {
		words = append(words, long(n))
	}
	words = append(words, []byte{}, bytes.Repeat([]byte{0}, 4096))
	for _, p := range ends() {
		for _, b := range words {
			want, told := say(p, b)
			got, e := pipe.Say(p, b)
			if e != told || !equal(got, want) || !pipe.Right(got) {
				t.Fatalf("Say(%+v, %d bytes) = %+v, %v", p, len(b), got, e)
			}
		}
	}
}
