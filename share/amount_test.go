package share_test

import (
	"math"
	"math/big"
	"slices"
	"testing"

	"bailiwick/share"
)

// P15.1: what is clean stays, and what isn't becomes 0 or the greatest amount. Told by hand.
func TestClean(t *testing.T) {
	for _, c := range []struct{ x, want float64 }{
		{0, 0}, {1, 1}, {2.5, 2.5}, {least, least}, {0x1p-1022, 0x1p-1022}, {most, most}, {1 << 62, 1 << 62}, {0.1, 0.1},
		{math.NaN(), 0}, {-1, 0}, {-least, 0}, {-most, 0}, {math.Inf(-1), 0}, {negative(), 0}, {math.Inf(1), most},
		{math.Float64frombits(0x7ff0000000000001), 0}, {math.Float64frombits(0xffffffffffffffff), 0},
	} {
		if got := share.Clean(c.x); !same(got, c.want) {
			t.Errorf("Clean(%v) = %v, not %v", c.x, got, c.want)
		}
	}
}

// P15.1: numbers with each sign, each exponent, and many a bit behind it.
func TestCleanBits(t *testing.T) {
	rests := []uint64{0, 1, 2, 1<<51 - 1, 1 << 51, 1<<52 - 1}
	for k := range 52 {
		rests = append(rests, 1<<k)
	}
	for head := range uint64(1 << 12) {
		for _, rest := range rests {
			x := math.Float64frombits(head<<52 | rest)
			if got := share.Clean(x); !same(got, clean(x)) {
				t.Fatalf("Clean(%v) = %v, not %v", x, got, clean(x))
			}
		}
	}
	for _, x := range strewn(20000, dice(1)) {
		if got := share.Clean(x); !same(got, clean(x)) {
			t.Fatalf("Clean(%v) = %v, not %v", x, got, clean(x))
		}
	}
}

// P15.1: halves told by hand. Least amounts are rounded each time: to the even one, where two are as near.
func TestFade(t *testing.T) {
	for _, c := range []struct {
		x      float64
		halves int
		want   float64
	}{
		{8, 3, 1}, {8, 0, 8}, {3, 1, 1.5}, {3, 2, 0.75}, {20, 2, 5}, {0, 5, 0}, {1, 1074, least}, {1, 1075, 0}, {1, 1022, 0x1p-1022}, {0.1, 1, 0.05},
		{least, 0, least}, {least, 1, 0}, {2 * least, 1, least}, {2 * least, 2, 0}, {3 * least, 1, 2 * least}, {3 * least, 2, least}, {3 * least, 3, 0},
		{5 * least, 1, 2 * least}, {5 * least, 2, least}, {5 * least, 3, 0}, // in one step by 8 it would be 1
		{6 * least, 2, 2 * least}, {7 * least, 1, 4 * least}, {7 * least, 2, 2 * least},
		{11 * least, 3, 2 * least}, // 6, 3, 2; in one step by 8 it would be 1
		{13 * least, 3, 2 * least}, {9 * least, 1, 4 * least}, {9 * least, 4, 0},
		{(1<<52 + 1) * least, 1, 1 << 51 * least}, {(1<<53 - 1) * least, 1, 1 << 52 * least}, {(1<<52 + 3) * least, 1, (1<<51 + 2) * least},
		{most, 1, most / 2}, {most, 2045, (1<<53 - 1) * least}, {most, 2046, 0x1p-1022}, {most, 2098, least}, {most, 2099, 0}, {most, 4096, 0},
	} {
		if got := share.Fade(c.x, c.halves); !same(got, c.want) {
			t.Errorf("Fade(%v, %d) = %v, not %v", c.x, c.halves, got, c.want)
		}
	}
}

// P15.1: a number of halves below 0 counts as 0, and a great one as 4096, however great: no amount is left then.
func TestFadeByAnyNumber(t *testing.T) {
	for _, x := range numbers() {
		for _, halves := range []int{0, -1, -2, -4096, -4097, -1 << 32, math.MinInt32, math.MinInt + 1, math.MinInt} {
			if got := share.Fade(x, halves); !same(got, clean(x)) {
				t.Fatalf("Fade(%v, %d) = %v, not %v", x, halves, got, clean(x))
			}
		}
		for _, halves := range []int{2099, 4095, 4096, 4097, 8192, 1 << 16, math.MaxInt32, 1 << 32, 1<<32 + 1, 1 << 62, math.MaxInt} {
			if got := share.Fade(x, halves); !same(got, 0) {
				t.Fatalf("Fade(%v, %d) = %v", x, halves, got)
			}
		}
	}
}

// P15.1: what isn't clean is cleaned, and then fades.
func TestFadeOfUnclean(t *testing.T) {
	for _, halves := range []int{-1, 0, 1, 2, 50, 2046, 2098, 2099, 5000} {
		for _, x := range unclean() {
			want := 0.0
			if math.IsInf(x, 1) {
				want = fade(most, halves)
			}
			if got := share.Fade(x, halves); !same(got, want) {
				t.Errorf("Fade(%v, %d) = %v, not %v", x, halves, got, want)
			}
		}
	}
}

// P15.1: few halves of all numbers, half by half.
func TestFadeHalfByHalf(t *testing.T) {
	for _, x := range numbers() {
		n := units(x)
		for halves := range 80 {
			if got := share.Fade(x, halves); !same(got, amount(n)) {
				t.Fatalf("Fade(%v, %d) = %v, not %v", x, halves, got, amount(n))
			}
			halve(n)
		}
	}
}

// P15.1: all that few least amounts fade to, and what fades to few of them, from all places where the amounts lie wider apart.
func TestFadeToLeast(t *testing.T) {
	for k := range 600 {
		for _, up := range []int{0, 1, 2, 44, 52, 53, 54, 100, 1000, 2000} {
			n := new(big.Int).Lsh(big.NewInt(int64(k)), uint(up))
			x := amount(n)
			for halves := max(0, up-2); halves < up+13; halves++ {
				if got := share.Fade(x, halves); !same(got, fade(x, halves)) {
					t.Fatalf("Fade(%v, %d) = %v, not %v", x, halves, got, fade(x, halves))
				}
			}
		}
	}
}

// P15.1: great amounts fade to the end, half by half.
func TestFadeToTheEnd(t *testing.T) {
	for _, x := range []float64{most, math.Nextafter(most, 0), math.Inf(1), 1e308, 1e300 / 7, 0x1p1023, 1, 1.0 / 3} {
		n := units(x)
		for halves := range 2110 {
			if got := share.Fade(x, halves); !same(got, amount(n)) {
				t.Fatalf("Fade(%v, %d) = %v, not %v", x, halves, got, amount(n))
			}
			halve(n)
		}
	}
}

// P15.1: sums told by hand: added as they stand, each cleaned, rounded behind each.
func TestSum(t *testing.T) {
	tiny := 0x1p-53 // half of what lies between 1 and the next amount
	for _, c := range []struct {
		l    []float64
		want float64
	}{
		{nil, 0}, {[]float64{}, 0}, {[]float64{0}, 0}, {[]float64{negative()}, 0}, {[]float64{negative(), negative()}, 0}, {[]float64{2.5}, 2.5}, {[]float64{1, 2, 3}, 6}, {[]float64{0.1, 0.2}, 0.30000000000000004},
		{[]float64{1, math.NaN(), 2, -5}, 3}, {[]float64{math.NaN()}, 0}, {[]float64{-5}, 0}, {[]float64{-5, 3}, 3}, {[]float64{3, -5, math.Inf(-1), 1}, 4},
		{[]float64{1, tiny, tiny}, 1}, {[]float64{tiny, tiny, 1}, 1 + 0x1p-52}, {[]float64{tiny, 1, tiny}, 1}, {[]float64{1, 2 * tiny, tiny}, 1 + 0x1p-51}, // between two: the even one
		{[]float64{1 << 53, 1, 1}, 1 << 53}, {[]float64{1, 1, 1 << 53}, 1<<53 + 2},
		{[]float64{least, least, least}, 3 * least}, {[]float64{0x1p-1022, least}, (1<<52 + 1) * least},
		{[]float64{most}, most}, {[]float64{most, most}, most}, {[]float64{most, most, most, 1}, most}, {[]float64{most, 1}, most}, {[]float64{most, 0x1p970}, most}, {[]float64{most, math.Nextafter(0x1p970, 0)}, most},
		{[]float64{math.Inf(1)}, most}, {[]float64{math.Inf(1), math.Inf(1)}, most}, {[]float64{math.Inf(1), math.Inf(-1)}, most}, {[]float64{math.Inf(-1), math.Inf(1)}, most}, {[]float64{math.Inf(-1)}, 0}, {[]float64{math.Inf(1), math.NaN()}, most}, {[]float64{most, -most}, most},
		{[]float64{most, most, -most, 5}, most}, {[]float64{most / 2, most / 2}, most},
	} {
		if got := share.Sum(c.l); !same(got, c.want) {
			t.Errorf("Sum(%v) = %v, not %v", c.l, got, c.want)
		}
	}
}

// P15.1: of one number its cleaned self, and of two of them, in both orders.
func TestSumOfTwo(t *testing.T) {
	l := numbers()
	for i, x := range l {
		if got := share.Sum([]float64{x}); !same(got, clean(x)) {
			t.Fatalf("Sum of %v alone is %v", x, got)
		}
		for k := i % 3; k < len(l); k += 3 {
			if got, want := share.Sum([]float64{x, l[k]}), sum([]float64{x, l[k]}); !same(got, want) {
				t.Fatalf("Sum of %v and %v is %v, not %v", x, l[k], got, want)
			}
		}
	}
}

// P15.1: all lists of up to four of a few numbers.
func TestSumOfFew(t *testing.T) {
	few := []float64{0, 1, 3, 0x1p-53, 1 << 53, least, most, 0x1p970, -2, negative(), math.NaN(), math.Inf(1), math.Inf(-1)}
	lists := [][]float64{nil}
	for at := 0; at < len(lists); at++ {
		l := lists[at]
		if got := share.Sum(l); !same(got, sum(l)) {
			t.Fatalf("Sum(%v) = %v, not %v", l, got, sum(l))
		}
		if len(l) == 4 {
			continue
		}
		for _, x := range few {
			lists = append(lists, append(slices.Clip(l), x))
		}
	}
}

// P15.1: long lists, of numbers of one size and of any.
func TestSumOfMany(t *testing.T) {
	for seed := range 60 {
		roll := dice(seed)
		l := strewn(roll(60), roll)
		for range roll(300) {
			l = append(l, float64(roll(1<<20))*[]float64{1, 0.1, least, 0x1p-30, 0x1p1000}[seed%5])
		}
		for k := range l {
			o := k + roll(len(l)-k)
			l[k], l[o] = l[o], l[k]
		}
		if seed%2 == 0 { // without those that are greater than all the others together
			l = slices.DeleteFunc(l, func(x float64) bool { return x > 1e20 })
		}
		if got := share.Sum(l); !same(got, sum(l)) {
			t.Fatalf("Sum of %d is %v, not %v: %v", len(l), got, sum(l), l)
		}
	}
}

// P15.3: what is cleaned is clean, and cleaning it again changes nothing; what is clean stays as it is.
func TestCleanedIsClean(t *testing.T) {
	check := func(x float64) {
		bits := math.Float64bits(x)
		if bits > math.Float64bits(most) { // so are all that have a sign, are infinite, or are no number
			t.Fatalf("%v isn't clean", x)
		}
		if !same(share.Clean(x), x) {
			t.Fatalf("Clean(%v) = %v", x, share.Clean(x))
		}
	}
	for _, x := range slices.Concat(whole(), plain()) {
		check(x)
	}
	l := append(numbers(), strewn(5000, dice(3))...)
	for k, x := range l {
		check(share.Clean(x))
		check(share.Fade(x, k%2200))
		check(share.Sum(l[k : k+min(6, len(l)-k)]))
	}
}

// P15.3: fading never makes more, of a cleaned amount, nor do further halves; and the more there was, the more is left.
func TestFadeNeverMakesMore(t *testing.T) {
	for _, x := range numbers() {
		last := share.Clean(x)
		for halves := range 60 {
			now := share.Fade(x, halves)
			if now > last {
				t.Fatalf("Fade(%v, %d) = %v, more than %v", x, halves, now, last)
			}
			last = now
		}
		for _, halves := range []int{100, 1021, 1022, 1023, 1074, 1075, 2000, 2045, 2046, 2047, 2098, 2099, 4096, 9999} {
			now := share.Fade(x, halves)
			if now > last {
				t.Fatalf("Fade(%v, %d) = %v, more than %v", x, halves, now, last)
			}
			last = now
		}
	}
	rising := slices.Concat(whole(), plain())
	slices.Sort(rising)
	for halves := range 60 {
		for k, x := range rising[1:] {
			if share.Fade(x, halves) < share.Fade(rising[k], halves) {
				t.Fatalf("Fade by %d of %v is less than of %v", halves, x, rising[k])
			}
		}
	}
}
