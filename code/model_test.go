package code_test

import (
	"bytes"
	"math/big"
	"slices"
	"strconv"
	"strings"

	"bailiwick/api"
	"bailiwick/set"
	"bailiwick/spec"
)

// cat is its parts, one behind the other, in memory of its own.
func cat(parts ...[]byte) []byte { return slices.Concat(parts...) }

// num is a number as bytes: its binary digits in sevens, the last ones first.
func num(n uint64) []byte {
	digits := strconv.FormatUint(n, 2)
	digits = strings.Repeat("0", (7-len(digits)%7)%7) + digits
	var b []byte
	for len(digits) > 0 {
		cut := len(digits) - 7
		high := "1"
		if cut == 0 {
			high = "0"
		}
		c, _ := strconv.ParseUint(high+digits[cut:], 2, 8)
		b, digits = append(b, byte(c)), digits[:cut]
	}
	return b
}

// signed is a number with a sign as bytes.
func signed(n int) []byte {
	if n >= 0 {
		return num(uint64(n) * 2)
	}
	return num(uint64(-n)*2 - 1)
}

// fields are a spec's bytes, a piece for each of its fields, the kind ahead; the spec may be wrong.
func fields(s api.Spec) [][]byte {
	whole := []byte{0}
	if s.Whole {
		whole[0] = 1
	}
	return [][]byte{
		{1}, num(uint64(s.Nodes)), num(uint64(s.Cores)), num(uint64(s.Gpus)),
		append(num(uint64(len(s.Tag))), s.Tag...), whole, num(uint64(s.Long)), signed(s.Prio),
	}
}

// specBytes are a spec's bytes, and setBytes a set's, its runs told by its text.
func specBytes(s api.Spec) []byte { return cat(fields(s)...) }
func setBytes(l []int) []byte {
	if len(l) == 0 {
		return []byte{2, 0}
	}
	runs := strings.Split(set.Show(l), ",")
	b := cat([]byte{2}, num(uint64(len(runs))))
	behind := 0
	for _, r := range runs {
		head, tail, two := strings.Cut(r, "-")
		first, _ := strconv.Atoi(head)
		last := first
		if two {
			last, _ = strconv.Atoi(tail)
		}
		b = cat(b, num(uint64(first-behind)), num(uint64(last-first)))
		behind = last
	}
	return b
}

// listBytes are a list's.
func listBytes(parts ...[]byte) []byte {
	return cat([]byte{3}, num(uint64(len(parts))), cat(parts...))
}

// What a piece of the model takes: no byte at all, one, or a number's.
const (
	noByte = iota
	oneByte
	number
)

// piece is what comes next: done is called with what has been taken, and says whether it may be.
type piece struct {
	takes int
	done  func(n int64) bool
}

// model is handed bytes one by one, and so finds errors just where the document has them found.
type model struct {
	todo  []piece // the next one last
	taken []byte  // of the piece that is taken
	all   []byte
}

// first puts pieces ahead of what is to come.
func (m *model) first(pieces ...piece) bool {
	slices.Reverse(pieces)
	m.todo = append(m.todo, pieces...)
	return true
}

// settle calls what takes no byte; false, if one of these may not be.
func (m *model) settle() bool {
	for len(m.todo) > 0 && m.todo[len(m.todo)-1].takes == noByte {
		if !m.finish(0) {
			return false
		}
	}
	return true
}

func (m *model) finish(n int64) bool {
	p := m.todo[len(m.todo)-1]
	m.todo, m.taken = m.todo[:len(m.todo)-1], nil
	return p.done(n)
}

// feed takes one byte; false, if what has come is the beginning of none.
func (m *model) feed(c byte) bool {
	if len(m.todo) == 0 {
		return false
	}
	m.taken, m.all = append(m.taken, c), append(m.all, c)
	if m.todo[len(m.todo)-1].takes == oneByte {
		return m.finish(int64(c)) && m.settle()
	}
	if c >= 128 {
		return len(m.taken) < 9 // as many as 2^62 has
	}
	n := new(big.Int)
	for i, x := range m.taken {
		n.Add(n, new(big.Int).Lsh(big.NewInt(int64(x%128)), uint(7*i)))
	}
	if n.Cmp(new(big.Int).Lsh(big.NewInt(1), 62)) > 0 || !bytes.Equal(m.taken, num(n.Uint64())) {
		return false
	}
	return m.finish(n.Int64()) && m.settle()
}

// read hands all of b over.
func (m *model) read(b []byte) api.Errno {
	if len(b) > 65536 {
		return api.ErrLong
	}
	m.settle()
	for _, c := range b {
		if !m.feed(c) {
			return api.ErrForm
		}
	}
	if len(m.todo) > 0 {
		return api.ErrShort
	}
	return api.OK
}

// is takes a byte that is just this one.
func is(kind int64) piece { return piece{oneByte, func(n int64) bool { return n == kind }} }

// keep takes a number, whatever it is.
func keep(to *int64) piece { return piece{number, func(n int64) bool { *to = n; return true }} }

// spec puts ahead what a spec is, behind its kind.
func (m *model) spec(to *api.Spec) bool {
	var nodes, cores, gpus, prio int64
	letter := piece{oneByte, func(n int64) bool { to.Tag += string([]byte{byte(n)}); return true }}
	return m.first(
		keep(&nodes), keep(&cores), keep(&gpus),
		piece{number, func(n int64) bool { return n <= 16 && m.first(slices.Repeat([]piece{letter}, int(n))...) }},
		piece{oneByte, func(n int64) bool { to.Whole = n == 1; return n < 2 }},
		keep(&to.Long), keep(&prio),
		piece{noByte, func(int64) bool {
			to.Nodes, to.Cores, to.Gpus, to.Prio = int(nodes), int(cores), int(gpus), int(prio/2)
			if prio%2 == 1 {
				to.Prio = int(-(prio + 1) / 2)
			}
			return spec.Right(*to)
		}},
	)
}

// set puts ahead what a set is, behind its kind.
func (m *model) set(to *[]int) bool {
	var ahead, rest int64
	run := []piece{keep(&ahead), keep(&rest), {noByte, func(int64) bool {
		if ahead > 255 || rest > 255 {
			return false
		}
		at, l := int(ahead), *to
		if len(l) > 0 {
			at += l[len(l)-1]
			if ahead < 2 {
				return false
			}
		}
		for i := range int(rest) + 1 {
			l = append(l, at+i)
		}
		*to = l
		return l[len(l)-1] < 256
	}}}
	return m.first(piece{number, func(n int64) bool { return n <= 256 && m.first(slices.Repeat(run, int(n))...) }})
}

// part puts ahead what a part of a list is.
func (m *model) part(to *[][]byte) bool {
	from := len(m.all)
	return m.first(
		piece{oneByte, func(n int64) bool {
			var s api.Spec
			var l []int
			return n == 1 && m.spec(&s) || n == 2 && m.set(&l)
		}},
		piece{noByte, func(int64) bool { *to = append(*to, bytes.Clone(m.all[from:])); return true }},
	)
}

// wantSpec, wantSet and wantList are what ReadSpec, ReadSet and ReadList have to answer.
func wantSpec(b []byte) (api.Spec, api.Errno) {
	var m model
	var s api.Spec
	m.first(is(1), piece{noByte, func(int64) bool { return m.spec(&s) }})
	if e := m.read(b); e != api.OK {
		return api.Spec{}, e
	}
	return s, api.OK
}

func wantSet(b []byte) ([]int, api.Errno) {
	var m model
	var l []int
	m.first(is(2), piece{noByte, func(int64) bool { return m.set(&l) }})
	if e := m.read(b); e != api.OK {
		return nil, e
	}
	return l, api.OK
}

func wantList(b []byte) ([][]byte, api.Errno) {
	var m model
	var parts [][]byte
	part := piece{noByte, func(int64) bool { return m.part(&parts) }}
	m.first(is(3), piece{number, func(n int64) bool { return n <= 1000 && m.first(slices.Repeat([]piece{part}, int(n))...) }})
	if e := m.read(b); e != api.OK {
		return nil, e
	}
	return parts, api.OK
}
