package set

import (
	"math/bits"

	"bailiwick/api"
)

// wordBits is the size of one word, in bits.
const wordBits = 64

// words hold a set: number n is bit n%wordBits of word n/wordBits.
type words [api.MaxThings / wordBits]uint64

// pack answers false for a list that is no set, so that whoever packs need not ask Right first.
func pack(l []int) (words, bool) {
	if !Right(l) {
		return words{}, false
	}
	var w words
	for _, n := range l {
		w[n/wordBits] |= 1 << (n % wordBits)
	}
	return w, true
}

// packBoth answers false if either list is no set.
func packBoth(a, b []int) (words, words, bool) {
	x, rightA := pack(a)
	y, rightB := pack(b)
	if !rightA || !rightB {
		return words{}, words{}, false
	}
	return x, y, true
}

// list is the rising list of the numbers in w, in memory of its own.
func (w words) list() []int {
	size := 0
	for _, word := range w {
		size += bits.OnesCount64(word)
	}
	l := make([]int, 0, size)
	for i, word := range w {
		for word != 0 {
			l = append(l, i*wordBits+bits.TrailingZeros64(word))
			word &= word - 1 // the lowest bit has been told
		}
	}
	return l
}

func (w words) join(o words) words {
	for i := range w {
		w[i] |= o[i]
	}
	return w
}

func (w words) meet(o words) words {
	for i := range w {
		w[i] &= o[i]
	}
	return w
}

func (w words) less(o words) words {
	for i := range w {
		w[i] &^= o[i]
	}
	return w
}

func (w words) empty() bool { return w == words{} }
