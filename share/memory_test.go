package share_test

import (
	"math"
	"slices"
	"testing"

	"bailiwick/api"
	"bailiwick/share"
)

// bits are the bits of all numbers of a list: what is no number is told too.
func bits(l []float64) []uint64 {
	var out []uint64
	for _, x := range l {
		out = append(out, math.Float64bits(x))
	}
	return out
}

// flat are the numbers of all uses, bit by bit.
func flat(l []api.Use) []uint64 {
	var out []uint64
	for _, u := range l {
		out = append(out, uint64(u.Who), math.Float64bits(u.Had), math.Float64bits(u.Weight))
	}
	return out
}

// roomy are uses in no order, clean ones and others, with spare room behind the first five.
func roomy() []api.Use {
	return []api.Use{use(3, 5, 0), use(2, math.NaN(), -1), use(1, math.Inf(1), negative()), use(2, 6, 2), use(0, -1, 4), use(77, -7, math.NaN()), use(-77, negative(), 7)}
}

// Rule 3: what is handed in stays, its spare room too.
func TestHandedInStays(t *testing.T) {
	l := roomy()
	share.Order(l[:5])
	share.Bonus(l[:5], 2)
	share.Bonus(l[:5], 9)
	share.Share(l[1])
	if !slices.Equal(flat(l), flat(roomy())) {
		t.Errorf("the uses are changed: %+v", l)
	}
	sums := append(unclean(), most, 1, math.NaN(), -1)
	kept := bits(sums)
	share.Sum(sums[:len(sums)-2])
	if !slices.Equal(bits(sums), kept) {
		t.Errorf("the amounts are changed: %v", sums)
	}
}

// Rule 3: what is answered is new memory, each time.
func TestNewMemory(t *testing.T) {
	l := roomy()[:5]
	want := []int{4, 1, 3, 2, 0}
	first, again := share.Order(l), share.Order(l)
	spare := first[:cap(first)]
	for i := range spare {
		spare[i] = -9
	}
	if !slices.Equal(again, want) || !slices.Equal(share.Order(l), want) || !slices.Equal(flat(l), flat(roomy()[:5])) {
		t.Errorf("Order is %v, and then %v", again, share.Order(l))
	}
}

// Rule 4: the same is answered each time, whatever was asked in between.
func TestSameEachTime(t *testing.T) {
	l := manyUses(300, dice(4))
	order, bonus := share.Order(l), share.Bonus(l, 0)
	for seed := range 20 {
		other := manyUses(seed*20, dice(seed))
		share.Order(other)
		share.Sum(strewn(seed, dice(seed)))
		share.Fade(most, seed*100)
		if !slices.Equal(share.Order(l), order) || share.Bonus(l, 0) != bonus {
			t.Fatalf("behind %d others: %v, %d", len(other), share.Order(l), share.Bonus(l, 0))
		}
	}
}
