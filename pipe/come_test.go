package pipe_test

import (
	"bytes"
	"slices"
	"testing"

	"bailiwick/api"
	"bailiwick/pipe"
)

// came is what is answered when a packet comes; it tells where that is otherwise than the document's words.
func came(t *testing.T, p api.Pipe, x api.Packet) (api.Pipe, []byte, bool) {
	t.Helper()
	want, word, told := come(p, x)
	got, b, ok := pipe.Come(p, x)
	if ok != told || !bytes.Equal(b, word) || !equal(got, want) {
		t.Fatalf("Come(%+v, %+v) = %+v, %v, %v, not %+v, %v, %v", p, x, got, b, ok, want, word, told)
	}
	return got, b, ok
}

// P17.2: what goes, told by hand.
func TestGoes(t *testing.T) {
	for _, c := range []struct {
		p    api.Pipe
		want []api.Packet
	}{
		{end(3, 1, 0, 1), []api.Packet{{Epoch: 3}}},
		{end(3, 9, 0, 1), []api.Packet{{Epoch: 3}}}, // all it said has come
		{end(0, 1, 0, 6), []api.Packet{{Ack: 5}}},
		{end(3, 2, 1, 1), []api.Packet{{Epoch: 3, Seq: 1, Body: word(1)}}},
		{end(3, 7, 3, 2), []api.Packet{{Epoch: 3, Seq: 4, Ack: 1}, {Epoch: 3, Seq: 5, Ack: 1, Body: word(5)}, {Epoch: 3, Seq: 6, Ack: 1, Body: word(6)}}},
		{end(most, most, 1, most), []api.Packet{{Epoch: most, Seq: most - 1, Ack: most - 1, Body: word(most - 1)}}},
		{end(most, most, 0, most), []api.Packet{{Epoch: most, Ack: most - 1}}},
		{api.Pipe{}, nil}, {end(3, 1, 0, 0), nil}, {end(3, 0, 0, 1), nil}, {end(-1, 1, 0, 1), nil}, {end(3, 18, 17, 1), nil},
	} {
		if got := pipe.Goes(c.p); !slices.EqualFunc(got, c.want, alike) {
			t.Errorf("Goes(%+v) = %+v", c.p, got)
		}
	}
}

// P17.2: of all ends goes what the document says, and each packet of it may be.
func TestGoesOfAll(t *testing.T) {
	for _, p := range ends() {
		got := pipe.Goes(p)
		if !slices.EqualFunc(got, goes(p), alike) || len(got) != max(1, len(p.Out)) {
			t.Fatalf("Goes(%+v) = %+v", p, got)
		}
		for _, x := range got {
			if !pipe.Fine(x) {
				t.Fatalf("Goes(%+v) = %+v", p, got)
			}
		}
	}
}

// P17.2: what comes, told by hand: of an end that has 4, 5 and 6 in Out, and wants 9.
func TestCome(t *testing.T) {
	p := end(2, 7, 3, 9)
	b := []byte{8, 8}
	for _, c := range []struct {
		x    api.Packet
		out  int // how many are left in Out
		told bool
	}{
		{api.Packet{Epoch: 2, Seq: 9, Ack: 0, Body: b}, 3, true}, {api.Packet{Epoch: 2, Seq: 9, Ack: 3, Body: b}, 3, true}, {api.Packet{Epoch: 2, Seq: 9, Ack: 4}, 2, true},
		{api.Packet{Epoch: 2, Seq: 9, Ack: 5, Body: b}, 1, true}, {api.Packet{Epoch: 2, Seq: 9, Ack: 6, Body: b}, 0, true}, {api.Packet{Epoch: 2, Seq: 9, Ack: 7, Body: b}, 0, true},
		{api.Packet{Epoch: 2, Seq: 9, Ack: most, Body: long(4096)}, 0, true},
		{api.Packet{Epoch: 2, Seq: 8, Ack: 5, Body: b}, 1, false}, {api.Packet{Epoch: 2, Seq: 10, Ack: 5, Body: b}, 1, false}, // its Ack counts all the same
		{api.Packet{Epoch: 2, Seq: 1, Ack: 4, Body: b}, 2, false}, {api.Packet{Epoch: 2, Seq: most, Ack: 7, Body: b}, 0, false},
		{api.Packet{Epoch: 2, Seq: 0, Ack: 4}, 2, false}, {api.Packet{Epoch: 2, Seq: 0, Ack: 0}, 3, false}, {api.Packet{Epoch: 2, Seq: 0, Ack: 99}, 0, false},
		{api.Packet{Epoch: 1, Seq: 9, Ack: 5, Body: b}, 3, false}, {api.Packet{Epoch: 3, Seq: 9, Ack: 5, Body: b}, 3, false}, {api.Packet{Seq: 9, Ack: 5}, 3, false}, // of another epoch
		{api.Packet{Epoch: 2, Seq: 9, Ack: -1, Body: b}, 3, false}, {api.Packet{Epoch: 2, Seq: 9, Ack: most + 1, Body: b}, 3, false}, // may not be
		{api.Packet{Epoch: 2, Seq: 9, Ack: 5, Body: long(4097)}, 3, false}, {api.Packet{Epoch: 2, Seq: 0, Ack: 5, Body: b}, 3, false}, {api.Packet{Epoch: 2, Seq: -1, Ack: 5}, 3, false},
	} {
		got, word, told := came(t, p, c.x)
		want := end(2, 7, c.out, 9)
		if c.told {
			want.Want = 10
		}
		if told != c.told || told && !bytes.Equal(word, c.x.Body) || len(word) > 0 && !told || !equal(got, want) {
			t.Errorf("Come of %+v: %+v, %v, %v", c.x, got, word, told)
		}
	}
}

// P17.2: at 2^30 nothing is told any more, and Want stays; what is acknowledged still goes out.
func TestComeAtTheEnd(t *testing.T) {
	b := []byte{6}
	p, word, told := came(t, end(0, 5, 2, most-1), api.Packet{Seq: most - 1, Ack: 3, Body: b})
	if !told || !bytes.Equal(word, b) || !equal(p, end(0, 5, 1, most)) {
		t.Fatalf("%+v, %v, %v", p, word, told)
	}
	for _, seq := range []int{most - 1, most, 1, 0} {
		q, word, told := came(t, p, api.Packet{Seq: seq, Ack: 4})
		if told || len(word) != 0 || !equal(q, end(0, 5, 0, most)) {
			t.Errorf("%d: %+v, %v, %v", seq, q, word, told)
		}
	}
	if q, word, told := came(t, p, api.Packet{Seq: most, Body: b}); told || len(word) != 0 || !equal(q, p) {
		t.Errorf("%+v, %v, %v", q, word, told)
	}
}

// P17.2: all ends, and packets of all kinds, right ones and wrong ones; an end stays right.
func TestComeOfAll(t *testing.T) {
	for i, p := range ends() {
		l := packets(p)
		for k := i % 11; k < len(l); k += 11 {
			if q, _, _ := came(t, p, l[k]); !pipe.Right(q) {
				t.Fatalf("behind %+v, %+v isn't right", l[k], q)
			}
		}
	}
}

// P17.2: all small ends, with all packets of small numbers.
func TestComeOfAllSmall(t *testing.T) {
	for next := 1; next <= 6; next++ {
		for out := range next {
			for want := 1; want <= 6; want++ {
				p := end(1, next, out, want)
				for n := range 3 * 9 * 9 * 2 {
					x := api.Packet{Epoch: n % 3, Seq: n/3%9 - 1, Ack: n/27%9 - 1, Body: long(n / 243)}
					came(t, p, x)
				}
			}
		}
	}
}

// P17.2: what came is told once: it isn't again, however often it comes, and what it acknowledges is out but once.
func TestComeTwice(t *testing.T) {
	for _, p := range ends() {
		x := api.Packet{Epoch: p.Epoch, Seq: p.Want, Ack: p.Next - 1, Body: []byte{1, 2, 3}}
		q, b, ok := came(t, p, x)
		if ok != (p.Want < most) || ok != (len(b) == 3) || len(q.Out) != 0 {
			t.Fatalf("Come(%+v, %+v) = %+v, %v, %v", p, x, q, b, ok)
		}
		for range 3 {
			if r, b, ok := came(t, q, x); ok || len(b) != 0 || !equal(r, q) {
				t.Fatalf("Come(%+v, %+v) once more = %+v, %v, %v", p, x, r, b, ok)
			}
		}
	}
}
