package pipe_test

import (
	"bytes"
	"slices"
	"testing"

	"bailiwick/api"
	"bailiwick/pipe"
)

// given is all that is handed in, with spare room behind each list; all bodies lie in one piece of memory.
type given struct {
	end   api.Pipe
	whole []api.Packet
	bytes []byte
}

// roomy are three packets in Out, with spare room behind each list.
func roomy() given {
	b := long(90)
	var whole []api.Packet
	for n := range 6 {
		whole = append(whole, api.Packet{Epoch: 3, Seq: 5 + n, Body: b[n : 10+n]}) // bodies that share memory
	}
	return given{end: api.Pipe{Epoch: 3, Out: whole[:3], Next: 8, Want: 4}, whole: whole, bytes: b}
}

// spoil overwrites all packets of a list, their bodies and all spare room, one behind the other, and says whether one shows in another.
func spoil(l []api.Packet) bool {
	kept := deep(l)
	for i, x := range l {
		if !alike(x, kept[i]) {
			return true
		}
		room := x.Body[:cap(x.Body)]
		for k := range room {
			room[k] = 77
		}
	}
	l = l[:cap(l)]
	for i := range l {
		l[i] = api.Packet{Epoch: -9, Seq: -9, Ack: -9, Body: []byte{9}}
	}
	return false
}

// answers are, by name, what all calls answer: of an end that may be, of one that may not, beside errors too. A word that is told stands as a packet.
func answers() map[string]func(p api.Pipe, b []byte) ([]api.Packet, []byte) {
	come := func(seq, ack int) func(p api.Pipe, b []byte) ([]api.Packet, []byte) {
		return func(p api.Pipe, b []byte) ([]api.Packet, []byte) {
			q, word, _ := pipe.Come(p, api.Packet{Epoch: 3, Seq: seq, Ack: ack, Body: b})
			return q.Out, word
		}
	}
	return map[string]func(p api.Pipe, b []byte) ([]api.Packet, []byte){
		"Right": func(p api.Pipe, b []byte) ([]api.Packet, []byte) { pipe.Right(p); return nil, nil },
		"Fine": func(p api.Pipe, b []byte) ([]api.Packet, []byte) {
			pipe.Fine(api.Packet{Seq: 1, Body: b})
			return nil, nil
		},
		"Goes":         func(p api.Pipe, b []byte) ([]api.Packet, []byte) { return pipe.Goes(p), nil },
		"Say":          func(p api.Pipe, b []byte) ([]api.Packet, []byte) { q, _ := pipe.Say(p, b); return q.Out, nil },
		"Say too long": func(p api.Pipe, b []byte) ([]api.Packet, []byte) { q, _ := pipe.Say(p, long(4097)); return q.Out, nil },
		"Come":         come(4, 0), "Come, and one is out": come(4, 5), "Come, and all are out": come(4, 7), "Come again": come(3, 5), "Come wrong": come(-1, 5),
	}
}

// Rule 3: what is handed in stays, its spare room too; an answer is new memory, beside an error as well, and no two lists of one share any.
func TestNewMemory(t *testing.T) {
	for name, call := range answers() {
		for _, change := range []func(p *api.Pipe){func(*api.Pipe) {}, func(p *api.Pipe) { p.Want = 0 }, func(p *api.Pipe) { p.Next = 7 }} {
			g := roomy()
			change(&g.end)
			kept, keptBytes := deep(g.whole), slices.Clone(g.bytes)
			l, word := call(g.end, g.bytes[20:40])
			wordKept := slices.Clone(word)
			if spoil(l) || !bytes.Equal(word, wordKept) {
				t.Errorf("%s: two lists share memory", name)
			}
			spoil([]api.Packet{{Body: word}})
			if !bytes.Equal(g.bytes, keptBytes) || !slices.EqualFunc(g.whole, kept, alike) {
				t.Errorf("%s: what is handed in is changed", name)
			}
		}
	}
}

// Rule 3: the same of an end that is full, and one at its numbers' end.
func TestNewMemoryOfOthers(t *testing.T) {
	for _, p := range []api.Pipe{end(0, 30, 16, 1), end(0, most, 3, 1)} {
		kept := deep(p.Out)
		q, e := pipe.Say(p, []byte{1})
		if e == api.OK || len(q.Out) != len(p.Out) || spoil(q.Out) || !slices.EqualFunc(p.Out, kept, alike) {
			t.Errorf("Say, %v: memory is shared", e)
		}
	}
}

// Rule 3: what was handed in may change behind the call; the answer stays.
func TestNothingIsKeptOfTheWord(t *testing.T) {
	g := roomy()
	said, _ := pipe.Say(g.end, g.bytes[20:40])
	all := pipe.Goes(g.end)
	heard, word, _ := pipe.Come(g.end, api.Packet{Epoch: 3, Seq: 4, Ack: 5, Body: g.bytes[20:40]})
	clear(g.whole)
	clear(g.bytes)
	b := long(90)
	want := roomy().end
	want.Out = append(want.Out, api.Packet{Epoch: 3, Seq: 8, Body: b[20:40]})
	want.Next = 9
	if !equal(said, want) || !bytes.Equal(word, b[20:40]) {
		t.Errorf("said %+v, told %v", said, word)
	}
	want = roomy().end
	if !slices.EqualFunc(all, goes(want), alike) {
		t.Errorf("goes %+v", all)
	}
	want.Out, want.Want = want.Out[1:], 5
	if !equal(heard, want) {
		t.Errorf("heard %+v", heard)
	}
}

// Rule 4: the same is answered each time, whatever was asked in between.
func TestSameEachTime(t *testing.T) {
	p := roomy().end
	want := goes(p)
	for n := range 20 {
		q, _ := pipe.Say(p, long(n))
		pipe.Come(q, api.Packet{Epoch: 3, Seq: 4, Ack: n, Body: long(n)})
		if !slices.EqualFunc(pipe.Goes(p), want, alike) || !pipe.Right(p) || p.Next != 8 || p.Want != 4 {
			t.Fatalf("%+v, %+v", p, pipe.Goes(p))
		}
	}
}
