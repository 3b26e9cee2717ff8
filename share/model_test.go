package share_test

import (
	"math"
	"math/big"
	"slices"

	"bailiwick/api"
)

const (
	least = math.SmallestNonzeroFloat64 // the least amount above 0: all are whole numbers of it
	most  = math.MaxFloat64
)

// negative is the negative zero, which no constant is.
func negative() float64 { return math.Copysign(0, -1) }

// same says whether two are the same to the last bit: so a zero isn't the negative one.
func same(a, b float64) bool { return math.Float64bits(a) == math.Float64bits(b) }

// clean is an amount cleaned, as the document tells it, told by its bits.
func clean(x float64) float64 {
	bits := math.Float64bits(x)
	head, rest := bits>>52, bits&(1<<52-1) // the head is the sign and the exponent
	switch {
	case head >= 1<<11: // below 0, or the negative zero, or none
		return 0
	case head == 1<<11-1 && rest != 0: // no number
		return 0
	case head == 1<<11-1: // infinite
		return most
	}
	return x
}

// exact is a cleaned amount as a fraction.
func exact(x float64) *big.Rat { return new(big.Rat).SetFloat64(clean(x)) }

// nearest is the amount that is nearest to a fraction; infinite, if it is more than any.
func nearest(r *big.Rat) float64 {
	x, _ := r.Float64()
	return x
}

// units are how many least amounts an amount is.
func units(x float64) *big.Int {
	r := exact(x)
	return r.Mul(r, new(big.Rat).SetInt(scale())).Num()
}

// amount is so many least ones.
func amount(n *big.Int) float64 { return nearest(new(big.Rat).SetFrac(n, scale())) }

// scale is how many least amounts are 1.
func scale() *big.Int { return new(big.Int).Lsh(big.NewInt(1), 1074) }

// halve halves so many least amounts: where this is between two amounts, it takes the even one.
func halve(n *big.Int) {
	odd := n.Bit(0) == 1
	n.Rsh(n, 1)
	if odd && n.Bit(0) == 1 {
		n.Add(n, big.NewInt(1))
	}
}

// fade is an amount faded, as the document tells it, in whole numbers of least amounts.
func fade(x float64, halves int) float64 {
	n := units(x)
	for range min(max(halves, 0), 4096) {
		halve(n)
	}
	return amount(n)
}

// sum is a sum as the document tells it, of fractions, rounded and cleaned behind each.
func sum(l []float64) float64 {
	out := 0.0
	for _, x := range l {
		out = clean(nearest(new(big.Rat).Add(exact(out), exact(x))))
	}
	return out
}

// part is somebody's share, as the document tells it, of fractions.
func part(u api.Use) float64 {
	had, weight := exact(u.Had), exact(u.Weight)
	switch {
	case weight.Sign() == 0 && had.Sign() == 0:
		return 0
	case weight.Sign() == 0:
		return math.Inf(1)
	}
	return nearest(new(big.Rat).Quo(had, weight))
}

// parts are the shares of all.
func parts(l []api.Use) []float64 {
	var out []float64
	for _, u := range l {
		out = append(out, part(u))
	}
	return out
}

// order is the places of all, as the document tells it: each stands behind as many as come ahead of it.
func order(l []api.Use) []int {
	shares := parts(l)
	out := make([]int, len(l))
	for a := range l {
		ahead := 0
		for b := range l {
			switch {
			case shares[b] != shares[a]:
				if shares[b] < shares[a] {
					ahead++
				}
			case l[b].Who != l[a].Who:
				if l[b].Who < l[a].Who {
					ahead++
				}
			case b < a:
				ahead++
			}
		}
		out[ahead] = a
	}
	return out
}

// bonus is somebody's bonus, as the document tells it.
func bonus(l []api.Use, who int) int {
	shares := parts(l)
	for first, u := range l {
		if u.Who != who {
			continue
		}
		more := 0
		for other, o := range l {
			if o.Who != who && shares[other] > shares[first] {
				more++
			}
		}
		return more
	}
	return 0
}

// dice answers numbers below n, other ones each time, and of one seed always the same.
func dice(seed int) func(n int) int {
	next := uint32(seed)*2654435761 + 12345
	return func(n int) int {
		next = next*1664525 + 1013904223
		return int(next>>8) % n
	}
}

// whole are amounts that are few of the least ones, or about where the amounts begin to lie wider apart.
func whole() []float64 {
	out := []float64{0}
	for n := range 70 {
		out = append(out, float64(n+1)*least)
	}
	for _, n := range []float64{1 << 51, 1 << 52, 1 << 53, 1 << 54} {
		x := n * least
		for range 3 {
			x = math.Nextafter(x, 0)
		}
		for range 7 {
			out = append(out, x)
			x = math.Nextafter(x, 1)
		}
	}
	return out
}

// plain are amounts of every size: clean ones all.
func plain() []float64 {
	out := []float64{1, 2, 3, 5, 6, 7, 8, 10, 0.1, 0.3, 1.0 / 3, 2.0 / 3, 1.5, 2.5, 1000, 1 << 20, 1<<53 - 1, 1 << 53, 1<<53 + 2, 1 << 62, 1e-320, 1e-310, 1e-300, 1e-9, 1e9, 1e100, 1e300, 1e308}
	for _, x := range []float64{0x1p-1022, 0x1p-512, 1, 0x1p512, 0x1p970, 0x1p971, 0x1p1023} {
		out = append(out, math.Nextafter(x, 0), x, math.Nextafter(x, most))
	}
	return append(out, most/2, math.Nextafter(most, 0), most)
}

// unclean are numbers that aren't clean.
func unclean() []float64 {
	out := []float64{math.Inf(1), math.Inf(-1), negative()}
	for _, bits := range []uint64{0x7ff0000000000001, 0x7ff7ffffffffffff, 0x7ff8000000000000, 0x7fffffffffffffff, 0xfff0000000000001, 0xfff8000000000000, 0xffffffffffffffff} {
		out = append(out, math.Float64frombits(bits)) // none is a number
	}
	for _, x := range plain() {
		out = append(out, -x)
	}
	return append(out, -least, -2*least, -3*least, math.NaN())
}

// strewn are so many numbers of any bits, some of which are no numbers.
func strewn(many int, roll func(n int) int) []float64 {
	var out []float64
	for range many {
		head, rest := uint64(roll(1<<12)), uint64(roll(1<<20))<<32|uint64(roll(1<<16))<<16|uint64(roll(1<<16))
		if roll(16) == 0 {
			head |= 1<<11 - 1
		}
		if roll(16) == 0 {
			rest = 0
		}
		out = append(out, math.Float64frombits(head<<52|rest))
	}
	return out
}

// numbers are all these, clean or not.
func numbers() []float64 {
	return slices.Concat(whole(), plain(), unclean(), strewn(200, dice(15)))
}

// use is what somebody has had, and what is theirs.
func use(who int, had, weight float64) api.Use { return api.Use{Who: who, Had: had, Weight: weight} }

// fewUses are uses of few shares, which come about in several ways: nought, a half, 1, 2, and infinite.
func fewUses() []api.Use {
	return []api.Use{
		use(1, 2, 1), use(1, 1, 2), use(2, 4, 2), use(2, 0, 0), use(3, 6, 3), use(3, 1, 0),
		use(2, math.NaN(), 1), use(1, 5, negative()), use(0, 3, 3), use(3, math.Inf(1), most),
	}
}

// smallLists are all lists of up to so many of these uses.
func smallLists(upTo int, uses []api.Use) [][]api.Use {
	all := [][]api.Use{nil}
	for at := 0; at < len(all); at++ {
		if len(all[at]) == upTo {
			continue
		}
		for _, u := range uses {
			all = append(all, append(slices.Clip(all[at]), u))
		}
	}
	return all
}

// edgeUses are uses of somebody else each time, with great and small numbers, and shares that are rounded to the same or nearly so.
func edgeUses() []api.Use {
	return []api.Use{
		use(math.MaxInt, most, 0.5), use(math.MinInt, 1, 0), use(0, math.Inf(1), -1), // infinite
		use(1<<32, least, 4), use(-1, -7, 1), use(1<<32+1, 0, most), use(5, least, most), use(1, negative(), 0), // nought
		use(4, 1, 3), use(3, 2, 6), use(2, 0.1, 0.3), use(6, 1, math.Nextafter(3, 0)), use(-2, 1, math.Nextafter(3, 4)), // a third, or nearly
		use(-1<<32, 1, 1), use(math.MinInt+1, least, least), use(math.MaxInt-1, most, math.Inf(1)), use(7, math.Inf(1), math.Inf(1)), use(8, 1, math.Nextafter(1, 2)), // 1, or nearly
		use(9, least, math.Nextafter(2, 0)), use(10, least, 2), // the least one, or nought
	}
}

// manyUses is a list of so many, of few Whos and of few numbers, or of any.
func manyUses(many int, roll func(n int) int) []api.Use {
	few := append(unclean(), 0, 1, 2, 4, 0.5, most, least)
	if roll(2) == 0 {
		few = []float64{0, 1, 2, 3, 4, 6, -1, math.Inf(1)}
	} else if roll(2) == 0 {
		few = numbers()
	}
	whos := 1 + roll(20)
	var l []api.Use
	for range many {
		l = append(l, use(roll(whos)-whos/2, few[roll(len(few))], few[roll(len(few))]))
	}
	return l
}

// lists tells of all these lists: small ones, the edges in several orders, and long ones.
func lists(tell func(l []api.Use)) {
	for _, l := range smallLists(4, fewUses()) {
		tell(l)
	}
	for _, l := range smallLists(2, edgeUses()) {
		tell(l)
	}
	for seed := range 40 {
		roll, l := dice(seed), edgeUses()
		for k := range l {
			o := k + roll(len(l)-k)
			l[k], l[o] = l[o], l[k]
		}
		tell(l)
	}
	for seed := range 60 {
		roll := dice(seed + 100)
		tell(manyUses([]int{1, 2, 5, 11, 12, 13, 14, 30, 64, 200}[seed%10], roll))
	}
}
