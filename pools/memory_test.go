package pools_test

import (
	"slices"
	"testing"

	"bailiwick/api"
	"bailiwick/pools"
)

// spoil overwrites the profiles of a list one by one, their spare room too, and says whether one shows in another.
func spoil(l [][]api.Step) bool {
	kept := deep(l)
	for i, p := range l {
		if !slices.Equal(p, kept[i]) {
			return true
		}
		p = p[:cap(p)]
		for k := range p {
			p[k] = api.Step{At: -99, Free: -99}
		}
	}
	clear(l[:cap(l)])
	return false
}

// Rule 3: what is handed in stays, its spare room too; an answer is new memory, beside an error as well, and no two lists of one share any.
func TestNewMemory(t *testing.T) {
	for _, c := range []struct {
		size     int
		from, to int64
		n        []int
	}{
		{2, 0, 1, []int{1, 1}}, {2, 2, 5, []int{1, 0}}, {2, 3, 4, []int{0, 0}}, {2, 7, api.Never, []int{1, 1}},
		{2, 0, 3, []int{0, api.MaxFree}}, {2, 0, 3, []int{api.MaxFree, 0}}, {2, 3, 3, []int{1, 1}}, {2, 0, 3, []int{1}}, {2, 0, 3, []int{1, -1}}, {3, 0, 3, []int{1, 1, 1}},
	} {
		room := steps(0, 4, 2, 1, 5, 4, -7, -7, -8, -8)
		// Both kinds are the same memory: what is answered of them isn't.
		whole := [][]api.Step{room[:3], room[:3], room, nil}
		l, kept, n := whole[:c.size], deep(whole), slices.Clone(c.n)
		pools.Right(l)
		clear(pools.At(l, c.from))
		pools.First(l, c.from, 2, n)
		for name, f := range changes() {
			m, e := f(l, c.from, c.to, n)
			if spoil(m) {
				t.Errorf("%s(%d, %d, %v), %v: two lists share memory", name, c.from, c.to, c.n, e)
			}
			if !equal(whole, kept) || !slices.Equal(room, kept[2]) || !slices.Equal(n, c.n) {
				t.Fatalf("%s(%d, %d, %v), %v: what is handed in is changed", name, c.from, c.to, c.n, e)
			}
		}
	}
	free := []int{4, 4, 4}
	l, e := pools.New(free)
	if e != api.OK || spoil(l) || !slices.Equal(free, []int{4, 4, 4}) {
		t.Error("New:", l, e, free)
	}
}
