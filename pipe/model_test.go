package pipe_test

import (
	"bytes"
	"math"
	"slices"

	"bailiwick/api"
)

// most is the greatest epoch, and the greatest number, as the document has it.
const most = 1073741824

// fine says whether a packet may be, as the document tells it.
func fine(x api.Packet) bool {
	for _, n := range []int{x.Epoch, x.Seq, x.Ack} {
		if n < 0 || most < n {
			return false
		}
	}
	if x.Seq == 0 {
		return len(x.Body) == 0
	}
	return len(x.Body) < 4097
}

// right says whether an end may be, as the document tells it: its numbers are held against Next from the last one on.
func right(p api.Pipe) bool {
	if p.Epoch < 0 || most < p.Epoch || p.Next < 1 || most < p.Next || p.Want < 1 || most < p.Want || len(p.Out) > 16 {
		return false
	}
	n := p.Next
	for _, o := range slices.Backward(p.Out) {
		n--
		if n == 0 || o.Seq != n || o.Epoch != p.Epoch || o.Ack != 0 || len(o.Body) > 4096 {
			return false
		}
	}
	return true
}

// say is the end behind a word, as the document tells it; it may share memory.
func say(p api.Pipe, b []byte) (api.Pipe, api.Errno) {
	if !right(p) {
		return p, api.ErrArg
	}
	if len(b) > 4096 {
		return p, api.ErrLong
	}
	if len(p.Out) == 16 {
		return p, api.ErrFull
	}
	if p.Next == most {
		return p, api.ErrOver
	}
	p.Out = append(slices.Clip(p.Out), api.Packet{Epoch: p.Epoch, Seq: p.Next, Ack: 0, Body: b})
	p.Next = p.Next + 1
	return p, api.OK
}

// goes is what goes, as the document tells it; it may share memory.
func goes(p api.Pipe) []api.Packet {
	var l []api.Packet
	if !right(p) {
		return l
	}
	for _, o := range p.Out {
		l = append(l, api.Packet{Epoch: p.Epoch, Seq: o.Seq, Ack: p.Want - 1, Body: o.Body})
	}
	if len(l) == 0 {
		l = append(l, api.Packet{Epoch: p.Epoch, Seq: 0, Ack: p.Want - 1})
	}
	return l
}

// come is the end behind a packet, and what is told, as the document tells it; it may share memory.
func come(p api.Pipe, x api.Packet) (api.Pipe, []byte, bool) {
	if !right(p) || !fine(x) || x.Epoch != p.Epoch {
		return p, nil, false
	}
	ack := x.Ack
	if ack >= p.Next {
		ack = p.Next - 1
	}
	for len(p.Out) > 0 && p.Out[0].Seq <= ack {
		p.Out = p.Out[1:]
	}
	if x.Seq == p.Want && p.Want+1 <= most {
		p.Want = p.Want + 1
		return p, x.Body, true
	}
	return p, nil, false
}

// alike says whether two packets are the same; no bytes are as good as empty ones.
func alike(a, b api.Packet) bool {
	return a.Epoch == b.Epoch && a.Seq == b.Seq && a.Ack == b.Ack && bytes.Equal(a.Body, b.Body)
}

// equal says whether two ends are the same; no packets are as good as an empty list of them.
func equal(a, b api.Pipe) bool {
	return a.Epoch == b.Epoch && a.Next == b.Next && a.Want == b.Want && slices.EqualFunc(a.Out, b.Out, alike)
}

// deep is a copy of these packets, all the way down.
func deep(l []api.Packet) []api.Packet {
	var out []api.Packet
	for _, x := range l {
		x.Body = append([]byte(nil), x.Body...)
		out = append(out, x)
	}
	return out
}

// long is a word of so many bytes, which differ.
func long(n int) []byte {
	var b []byte
	for i := range n {
		b = append(b, byte(i*7+i/256+n))
	}
	return b
}

// word is the word of a number: each fourth one is empty.
func word(n int) []byte { return long(n % 4) }

// end is an end that has so many words in Out, up to next - 1.
func end(epoch, next, out, want int) api.Pipe {
	p := api.Pipe{Epoch: epoch, Next: next, Want: want}
	for n := next - out; n < next; n++ {
		p.Out = append(p.Out, api.Packet{Epoch: epoch, Seq: n, Body: word(n)})
	}
	return p
}

// ends are ends of all kinds that may be, at their bounds and between.
func ends() []api.Pipe {
	var l []api.Pipe
	for _, epoch := range []int{0, 1, 5, most - 1, most} {
		for _, next := range []int{1, 2, 3, 4, 16, 17, 18, 99, most - 1, most} {
			for _, out := range []int{0, 1, 2, 3, 15, 16} {
				for _, want := range []int{1, 2, 3, 17, most - 1, most} {
					if out < next {
						l = append(l, end(epoch, next, out, want))
					}
				}
			}
		}
	}
	return l
}

// beyond are numbers that are none of an end's or a packet's, if the least is this.
func beyond(least int) []int {
	return []int{math.MinInt, -1 << 32, -most, -2, -1, least - 1, most + 1, most + 2, 1<<31 - 1, 1 << 31, 1 << 32, 1<<32 + 1, 1<<32 + most, math.MaxInt}
}

// wrongs are ends that are wrong at one place of p alone.
func wrongs(p api.Pipe) []api.Pipe {
	var l []api.Pipe
	add := func(change func(q *api.Pipe)) {
		q := p
		q.Out = deep(p.Out)
		change(&q)
		l = append(l, q)
	}
	for _, n := range beyond(0) {
		add(func(q *api.Pipe) {
			q.Epoch = n
			for i := range q.Out {
				q.Out[i].Epoch = n
			}
		})
	}
	for _, n := range beyond(1) {
		add(func(q *api.Pipe) { *q = end(p.Epoch, n, len(p.Out), p.Want) })
		add(func(q *api.Pipe) { q.Want = n })
	}
	add(func(q *api.Pipe) { *q = end(p.Epoch, 18, 17, p.Want) })
	add(func(q *api.Pipe) { *q = end(p.Epoch, 5, 5, p.Want) })
	add(func(q *api.Pipe) { *q = end(p.Epoch, 5, 6, p.Want) })
	for i := range p.Out {
		for _, by := range []int{1, -1, 2, most, 1 << 32} {
			add(func(q *api.Pipe) { q.Out[i].Epoch += by })
			add(func(q *api.Pipe) { q.Out[i].Seq += by })
			add(func(q *api.Pipe) { q.Out[i].Ack += by })
		}
		add(func(q *api.Pipe) { q.Out[i].Body = long(4097) })
	}
	if n := len(p.Out); n > 0 {
		add(func(q *api.Pipe) { q.Epoch = most/2 + q.Epoch/4 })
		add(func(q *api.Pipe) { q.Next-- })
		add(func(q *api.Pipe) { q.Next = max(n+1, q.Next/2) + q.Next%2 + 7 })
		add(func(q *api.Pipe) { q.Out = append(q.Out, q.Out[n-1]) })
		add(func(q *api.Pipe) { q.Out = append(q.Out, q.Out[0]) })
	}
	if n := len(p.Out); n > 1 {
		add(func(q *api.Pipe) { q.Out = q.Out[:n-1] })
		add(func(q *api.Pipe) { q.Out = q.Out[:n-1]; q.Next++ })
		add(func(q *api.Pipe) { slices.Reverse(q.Out) })
		add(func(q *api.Pipe) { q.Out[n-2], q.Out[n-1] = q.Out[n-1], q.Out[n-2] })
	}
	if n := len(p.Out); n > 2 {
		add(func(q *api.Pipe) { q.Out = slices.Delete(q.Out, n-2, n-1) })
	}
	return l
}

// packets are packets of all kinds that may come to p: right ones, such as it doesn't want, and such as may not be.
func packets(p api.Pipe) []api.Packet {
	var l []api.Packet
	bodies := [][]byte{nil, {9}, long(4096), long(4097)}
	first := p.Next - len(p.Out)
	for _, seq := range []int{-1, 0, 1, p.Want - 1, p.Want, p.Want + 1, p.Next - 1, p.Next, most - 1, most, most + 1, p.Want + 1<<32} {
		for _, ack := range []int{-1, 0, first - 2, first - 1, first, p.Next - 2, p.Next - 1, p.Next, p.Next + 1, p.Want, most, most + 1, 1 << 32} {
			for _, epoch := range []int{p.Epoch, p.Epoch - 1, p.Epoch + 1, p.Epoch + 1<<32} {
				for _, b := range bodies {
					l = append(l, api.Packet{Epoch: epoch, Seq: seq, Ack: ack, Body: b})
				}
			}
		}
	}
	return l
}

// dice rolls numbers from 0 to below n, the same each time for a seed.
func dice(seed int) func(n int) int {
	next := uint32(seed)*2654435761 + 12345
	return func(n int) int {
		next = next*1664525 + 1013904223
		return int(next>>8) % n
	}
}
