package share_test

import (
	"math"
	"slices"
	"testing"

	"bailiwick/api"
	"bailiwick/share"
)

// P15.1: shares told by hand: what was had by the weight, both cleaned.
func TestShare(t *testing.T) {
	inf := math.Inf(1)
	for _, c := range []struct{ had, weight, want float64 }{
		{6, 2, 3}, {1, 1, 1}, {1, 3, 1.0 / 3}, {0, 5, 0}, {3, 0.5, 6}, {0, most, 0}, {0, least, 0},
		{5, 0, inf}, {least, 0, inf}, {most, 0, inf}, {inf, 0, inf}, {5, negative(), inf}, {5, -3, inf}, {5, math.NaN(), inf}, {5, math.Inf(-1), inf}, {5, -least, inf},
		{0, 0, 0}, {negative(), 0, 0}, {0, negative(), 0}, {negative(), negative(), 0}, {-4, math.NaN(), 0}, {math.NaN(), 0, 0}, {math.NaN(), math.NaN(), 0}, {math.Inf(-1), -1, 0}, {-6, -2, 0}, {math.Inf(-1), math.Inf(-1), 0},
		{negative(), 1, 0}, {-6, 2, 0}, {math.NaN(), 2, 0}, {math.Inf(-1), 2, 0}, {0, math.Inf(1), 0}, {-1, math.Inf(1), 0},
		{inf, 1, most}, {inf, inf, 1}, {most, inf, 1}, {inf, most, 1}, {inf, 2, most / 2}, {1, inf, 1 / most}, {4, inf, 4 / most}, {least, inf, 0},
		{most, 0.5, inf}, {most, least, inf}, {1, least, inf}, {most, math.Nextafter(1, 0), inf}, {most, 1, most}, // more than an amount can be
		{least, 2, 0}, {least, math.Nextafter(2, 0), least}, {3 * least, 2, 2 * least}, {5 * least, 2, 2 * least}, {least, most, 0}, {least, least, 1}, {7 * least, 2 * least, 3.5}, // rounded, to the even one
	} {
		for _, who := range []int{0, 1, -1, math.MaxInt, math.MinInt} {
			if got := share.Share(use(who, c.had, c.weight)); !same(got, c.want) {
				t.Errorf("Share of %v by %v = %v, not %v", c.had, c.weight, got, c.want)
			}
		}
	}
}

// P15.1: all numbers by all others; none is no number, below 0, or a negative zero.
func TestShareOfAll(t *testing.T) {
	l := numbers()
	for i, had := range l {
		for k := i % 3; k < len(l); k += 3 {
			u := use(i, had, l[k])
			if got := share.Share(u); !same(got, part(u)) || math.IsNaN(got) || math.Signbit(got) {
				t.Fatalf("Share(%+v) = %v, not %v", u, got, part(u))
			}
		}
	}
}

// P15.2: orders told by hand.
func TestOrder(t *testing.T) {
	inf := math.Inf(1)
	for _, c := range []struct {
		l    []api.Use
		want []int
	}{
		{nil, nil}, {[]api.Use{}, nil}, {[]api.Use{{}}, []int{0}}, {[]api.Use{use(9, 5, 0)}, []int{0}},
		{[]api.Use{use(1, 6, 2), use(2, 1, 1), use(3, 5, 0)}, []int{1, 0, 2}}, // the document's example
		{[]api.Use{use(1, 3, 1), use(2, 2, 1), use(3, 1, 1)}, []int{2, 1, 0}},
		{[]api.Use{use(1, 1, 1), use(2, 1, 2), use(3, 9, 1)}, []int{1, 0, 2}},                                                        // not by what they had,
		{[]api.Use{use(3, 6, 2), use(2, 3, 1), use(1, 9, 3)}, []int{2, 1, 0}},                                                        // of one share by Who
		{[]api.Use{use(1, 1, 0), use(-1, 7, 0), use(0, 2, 0)}, []int{1, 2, 0}},                                                       // an infinite one too,
		{[]api.Use{use(2, 0, 0), use(1, 0, 3), use(0, -5, 1)}, []int{2, 1, 0}},                                                       // and nought
		{[]api.Use{use(7, 2, 1), use(7, 1, 1), use(7, 2, 1), use(7, 1, 1)}, []int{1, 3, 0, 2}},                                       // of one Who by place
		{[]api.Use{use(1, 2, 1), use(2, 1, 1), use(1, 1, 1), use(2, 2, 1), use(1, 1, 1)}, []int{2, 4, 1, 0, 3}},                      // the share comes first, then Who
		{[]api.Use{use(math.MaxInt, 1, 1), use(math.MinInt, 1, 1), use(0, 1, 1), use(-1, 1, 1), use(1, 1, 1)}, []int{1, 3, 2, 4, 0}}, // of great numbers too
		{[]api.Use{use(1<<32, 1, 1), use(1, 1, 1), use(1<<32+1, 1, 1), use(0, 1, 1)}, []int{3, 1, 0, 2}},
		{[]api.Use{use(1, inf, 1), use(2, 1, 0), use(3, most, 1), use(4, most, 0.5)}, []int{0, 2, 1, 3}},                      // cleaned, what is infinite is less than a share that is
		{[]api.Use{use(1, math.NaN(), math.NaN()), use(2, 1, math.NaN()), use(3, math.NaN(), 1)}, []int{0, 2, 1}},             // what is no number
		{[]api.Use{use(2, negative(), 1), use(1, 0, 1), use(0, negative(), 1)}, []int{2, 1, 0}},                               // a negative zero is none
		{[]api.Use{use(1, math.Nextafter(1, 2), 1), use(2, 1, 1), use(3, math.Nextafter(1, 0), 1)}, []int{2, 1, 0}},           // the last bit tells
		{[]api.Use{use(1, 2*least, 1), use(2, least, 1), use(3, 0, 1), use(4, least, 4), use(0, 3, 0)}, []int{2, 3, 1, 0, 4}}, // the least amounts too
	} {
		if got := share.Order(c.l); !slices.Equal(got, c.want) {
			t.Errorf("Order(%+v) = %v, not %v", c.l, got, c.want)
		}
	}
}

// P15.2: all lists, as the document tells it.
func TestOrderOfLists(t *testing.T) {
	lists(func(l []api.Use) {
		if got, want := share.Order(l), order(l); !slices.Equal(got, want) {
			t.Fatalf("Order(%+v) = %v, not %v", l, got, want)
		}
	})
}

// P15.2: of long lists of alike ones the places stay as they are; of two by turns, and of all backwards, too.
func TestOrderOfLongLists(t *testing.T) {
	for _, many := range []int{1, 2, 12, 13, 50, 51, 500, 5000, 1 << 17} {
		alike, turns, back := make([]api.Use, many), make([]api.Use, many), make([]api.Use, many)
		var wantAlike, wantTurns, wantBack []int
		for i := range many {
			alike[i] = use(4, float64(i%3+1), float64(i%3+1))
			turns[i] = use(1-i%2, 5, 0)
			back[i] = use(i, float64(many-i), 1)
			wantAlike, wantBack = append(wantAlike, i), append(wantBack, many-1-i)
		}
		for _, first := range []int{1, 0} {
			for i := first; i < many; i += 2 {
				wantTurns = append(wantTurns, i)
			}
		}
		if !slices.Equal(share.Order(alike), wantAlike) || !slices.Equal(share.Order(turns), wantTurns) || !slices.Equal(share.Order(back), wantBack) {
			t.Errorf("Order of %d is wrong", many)
		}
	}
}

// P15.2: bonuses told by hand.
func TestBonus(t *testing.T) {
	three := []api.Use{use(1, 6, 2), use(2, 1, 1), use(3, 5, 0)} // of the document's example
	twice := []api.Use{use(1, 2, 1), use(2, 3, 1), use(1, 9, 1), use(2, 1, 1), use(3, 3, 1), use(2, 7, 0), use(3, 2, 1)}
	alike := []api.Use{use(1, 6, 2), use(2, 3, 1), use(3, 9, 3), use(4, 0, 0), use(5, -1, 1), use(6, 1, 0), use(7, most, 0.5)}
	for _, c := range []struct {
		l         []api.Use
		who, want int
	}{
		{nil, 0, 0}, {[]api.Use{}, 1, 0}, {[]api.Use{{}}, 0, 0}, {[]api.Use{use(1, 0, 1)}, 1, 0}, {[]api.Use{use(1, 5, 0)}, 2, 0},
		{three, 1, 1}, {three, 2, 2}, {three, 3, 0},
		{three, 0, 0}, {three, 4, 0}, {three, -1, 0}, {three, 1<<32 + 1, 0}, {three, math.MaxInt, 0}, {three, math.MinInt, 0}, // none of this Who
		{twice, 1, 3},                                                                                           // the first one of it has 2; of others three places have more, of one Who two
		{twice, 2, 1},                                                                                           // of its own places none counts
		{twice, 3, 2},                                                                                           // 2's first one has as much
		{alike, 1, 2}, {alike, 2, 2}, {alike, 3, 2}, {alike, 4, 5}, {alike, 5, 5}, {alike, 6, 0}, {alike, 7, 0}, // of one share none is greater
		{[]api.Use{use(math.MinInt, 0, 1), use(math.MaxInt, 1, 1), use(-1, 2, 1)}, math.MinInt, 2},
		{[]api.Use{use(math.MinInt, 0, 1), use(math.MaxInt, 1, 1), use(-1, 2, 1)}, math.MaxInt, 1},
		{[]api.Use{use(0, 1, 1), use(1, math.NaN(), 1), use(2, math.Inf(1), 1), use(3, math.Inf(-1), 1), use(4, 1, math.NaN())}, 0, 2},
		{[]api.Use{use(0, math.Inf(1), 1), use(1, most, 1), use(2, 1, 0)}, 0, 1},
		{[]api.Use{use(0, 1, 1), use(1, math.Nextafter(1, 2), 1), use(2, 1, math.Nextafter(1, 2))}, 0, 1},
	} {
		if got := share.Bonus(c.l, c.who); got != c.want {
			t.Errorf("Bonus(%+v, %d) = %d, not %d", c.l, c.who, got, c.want)
		}
	}
}

// P15.2: of all lists those of each Who, and of some that aren't there.
func TestBonusOfLists(t *testing.T) {
	lists(func(l []api.Use) {
		whos := []int{-1, 0, 1, 2, 3, 4, 99, math.MinInt, math.MaxInt}
		for _, u := range l {
			if !slices.Contains(whos, u.Who) {
				whos = append(whos, u.Who)
			}
		}
		for _, who := range whos {
			if got, want := share.Bonus(l, who), bonus(l, who); got != want {
				t.Fatalf("Bonus(%+v, %d) = %d, not %d", l, who, got, want)
			}
		}
	})
}

// P15.2: a list may be long.
func TestBonusOfLongLists(t *testing.T) {
	for _, many := range []int{1, 100, 1 << 17} {
		l := make([]api.Use, many)
		for i := range l {
			l[i] = use(i, float64(i), 1)
		}
		for _, who := range []int{0, many / 2, many - 1} {
			if got := share.Bonus(l, who); got != many-1-who {
				t.Errorf("Bonus of %d among %d is %d", who, many, got)
			}
		}
	}
}

// P15.3: Order tells each place once, and no share is less than one ahead.
func TestOrderRises(t *testing.T) {
	lists(func(l []api.Use) {
		told := share.Order(l)
		if len(told) != len(l) {
			t.Fatalf("Order(%+v) = %v", l, told)
		}
		seen := make([]bool, len(l))
		for k, at := range told {
			if at < 0 || at >= len(l) || seen[at] || k > 0 && share.Share(l[at]) < share.Share(l[told[k-1]]) {
				t.Fatalf("Order(%+v) = %v", l, told)
			}
			seen[at] = true
		}
	})
}

// P15.3: so who comes first of all, if each Who is there once, has the greatest bonus, and who comes last none.
func TestOrderAndBonus(t *testing.T) {
	for seed := range 50 {
		l := manyUses(2+seed, dice(seed))
		for i := range l {
			l[i].Who = i * 7 % 53
		}
		told := share.Order(l)
		for k, at := range told[1:] {
			if share.Bonus(l, l[at].Who) > share.Bonus(l, l[told[k]].Who) {
				t.Fatalf("Order(%+v) = %v, and the bonus of %d is greater than of one ahead", l, told, at)
			}
		}
		if share.Bonus(l, l[told[len(l)-1]].Who) != 0 {
			t.Fatalf("Order(%+v) = %v, and the last one has a bonus", l, told)
		}
	}
}
