package code

import (
	"bytes"

	"bailiwick/api"
	"bailiwick/spec"
)

const (
	mostNumber = int64(1) << 62
	numBytes   = 9 // as many as the greatest number has
	mostRuns   = api.MaxThings
	top        = api.MaxThings - 1 // the greatest number of a set
)

// whole is what read finds in b, behind which nothing may stand; or why it gave up.
func whole[T any](b []byte, read func(*reader) T) (out T, e api.Errno) {
	if len(b) > mostBytes {
		return out, api.ErrLong
	}
	defer func() {
		gave := recover()
		if gave == nil {
			return
		}
		why, ok := gave.(api.Errno)
		if !ok {
			panic(gave) // no reader's: a fault of the program, that isn't to be hidden
		}
		e = why
	}()
	r := &reader{b: b}
	got := read(r) // not yet out, which stays zero beside an error
	r.need(r.at == len(b))
	return got, api.OK
}

func readSpec(r *reader) api.Spec {
	r.need(r.next() == kindSpec)
	return r.spec()
}

func readSet(r *reader) []int {
	r.need(r.next() == kindSet)
	return r.set()
}

func readList(r *reader) [][]byte {
	r.need(r.next() == kindList)
	n := r.number()
	r.need(n <= mostParts)
	var parts [][]byte
	for range n {
		parts = append(parts, readPart(r))
	}
	return parts
}

// readPart reads a spec or a set, and answers its bytes.
func readPart(r *reader) []byte {
	from := r.at
	switch r.next() {
	case kindSpec:
		r.spec()
	case kindSet:
		r.set()
	default:
		panic(api.ErrForm)
	}
	return bytes.Clone(r.b[from:r.at])
}

// reader goes through bytes one by one. Where they end too early, or are none of what is looked for, it gives up by a panic with the error's number.
type reader struct {
	b  []byte
	at int
}

// need gives up, if what must hold doesn't.
func (r *reader) need(ok bool) {
	if !ok {
		panic(api.ErrForm)
	}
}

func (r *reader) next() byte {
	if r.at == len(r.b) {
		panic(api.ErrShort)
	}
	c := r.b[r.at]
	r.at++
	return c
}

// number gives up at the last byte that a number may have, if it says that more follow: whatever did, it would be none.
func (r *reader) number() int64 {
	var n int64
	for i := range numBytes {
		c := r.next()
		n |= int64(c%more) << (i * numBits)
		if c < more {
			needless := c == 0 && i > 0
			r.need(!needless && n <= mostNumber)
			return n
		}
	}
	panic(api.ErrForm)
}

func (r *reader) signed() int64 {
	n := r.number()
	if n%2 == 1 {
		return -(n / 2) - 1
	}
	return n / 2
}

// text gives up at a length that no tag has.
func (r *reader) text() string {
	n := r.number()
	r.need(n <= api.MaxTag)
	var s []byte
	for range n {
		s = append(s, r.next())
	}
	return string(s)
}

func (r *reader) flag() bool {
	c := r.next()
	r.need(c <= 1)
	return c == 1
}

// spec reads what stands behind a spec's kind. Numbers that no spec has pass till its end.
func (r *reader) spec() api.Spec {
	var s api.Spec
	s.Nodes = int(r.number())
	s.Cores = int(r.number())
	s.Gpus = int(r.number())
	s.Tag = r.text()
	s.Whole = r.flag()
	s.Long = r.number()
	s.Prio = int(r.signed())
	r.need(spec.Right(s))
	return s
}

// set reads what stands behind a set's kind.
func (r *reader) set() []int {
	n := r.number()
	r.need(n <= mostRuns)
	var l []int
	var last int64
	for i := range n {
		ahead, rest := r.number(), r.number()
		// A sum of both might go over; what is left above the first one is at worst below 0.
		r.need((i == 0 || ahead > 1) && rest <= top-last-ahead)
		first := last + ahead
		last = first + rest
		for x := first; x <= last; x++ {
			l = append(l, int(x))
		}
	}
	return l
}
