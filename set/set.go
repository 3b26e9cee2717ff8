// Package set is layer 1: sets of things by their numbers. See shared/doc/01-set.md.
package set

import "bailiwick/api"

// Right set?
func Right(l []int) bool {
	last := -1
	for _, n := range l {
		if n <= last || n >= api.MaxThings {
			return false
		}
		last = n
	}
	return true
}

// Join two sets.
func Join(a, b []int) []int {
	x, y, ok := packBoth(a, b)
	if !ok {
		return nil
	}
	return x.join(y).list()
}

// Meet of two sets.
func Meet(a, b []int) []int {
	x, y, ok := packBoth(a, b)
	if !ok {
		return nil
	}
	return x.meet(y).list()
}

// Less: one without another one.
func Less(a, b []int) []int {
	x, y, ok := packBoth(a, b)
	if !ok {
		return nil
	}
	return x.less(y).list()
}

// Has a set a number?
func Has(a []int, n int) bool {
	w, ok := pack(a)
	if !ok || n < 0 || n >= api.MaxThings {
		return false
	}
	return w[n/wordBits]>>(n%wordBits)&1 == 1
}

// Part of another one?
func Part(a, b []int) bool {
	x, y, ok := packBoth(a, b)
	return ok && x.less(y).empty()
}

// Apart: is nothing in both?
func Apart(a, b []int) bool {
	x, y, ok := packBoth(a, b)
	return ok && x.meet(y).empty()
}
