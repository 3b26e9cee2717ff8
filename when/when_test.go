package when_test

import (
	"math"
	"math/big"
	"testing"

	"bailiwick/api"
	"bailiwick/when"
)

// edges are numbers, rising: small ones, and those at the ends of the times and of int64.
func edges() []int64 {
	half := api.Never / 2
	return []int64{
		math.MinInt64, math.MinInt64 + 1, -api.Never - 1, -api.Never, -api.Never + 1, -half, -5, -2, -1,
		0, 1, 2, 3, 7, 1 << 31, half - 1, half, half + 1,
		api.Never - 2, api.Never - 1, api.Never, api.Never + 1, api.Never + half, math.MaxInt64 - 1, math.MaxInt64,
	}
}

// nearest is the time nearest to t, worked out in numbers without an end.
func nearest(t int64) *big.Int {
	n := big.NewInt(t)
	if n.Sign() < 0 {
		return new(big.Int)
	}
	if n.Cmp(big.NewInt(api.Never)) > 0 {
		return big.NewInt(api.Never)
	}
	return n
}

// in says whether x is in the span from a to b.
func in(x, a, b int64) bool { return a <= x && x < b }

// spans are the answers that the words of P2.2 give for two spans, where xs are all the times that tell them apart.
func spans(a, b, c, d int64, xs []int64) (meets, within bool) {
	within = true
	for _, x := range xs {
		if in(x, a, b) && in(x, c, d) {
			meets = true
		}
		if in(x, a, b) && !in(x, c, d) {
			within = false
		}
	}
	return meets, within
}

// P2.1: is it a time?
func TestRight(t *testing.T) {
	for _, c := range []struct {
		t    int64
		want bool
	}{
		{0, true}, {1, true}, {5, true}, {1 << 40, true}, {api.Never - 1, true}, {api.Never, true},
		{-1, false}, {-5, false}, {api.Never + 1, false}, {-api.Never, false}, {math.MaxInt64, false}, {math.MinInt64, false},
	} {
		if got := when.Right(c.t); got != c.want {
			t.Errorf("Right(%d) = %v", c.t, got)
		}
	}
}

// P2.1: t and long further, and at most Never.
func TestPlus(t *testing.T) {
	for _, c := range []struct{ t, long, want int64 }{
		{0, 0, 0}, {0, 5, 5}, {5, 0, 5}, {3, 4, 7}, {1 << 40, 1 << 40, 1 << 41},
		{api.Never, 5, api.Never}, {api.Never, 0, api.Never}, {0, api.Never, api.Never},
		{api.Never - 2, 1, api.Never - 1}, {api.Never - 1, 1, api.Never}, {api.Never - 1, 2, api.Never},
		{1, api.Never - 2, api.Never - 1}, {1, api.Never - 1, api.Never}, {2, api.Never - 1, api.Never},
		{api.Never / 2, api.Never / 2, api.Never}, {api.Never / 2, api.Never/2 - 1, api.Never - 1},
		{api.Never, api.Never, api.Never}, {math.MaxInt64, math.MaxInt64, api.Never},
	} {
		if got := when.Plus(c.t, c.long); got != c.want {
			t.Errorf("Plus(%d, %d) = %d, not %d", c.t, c.long, got, c.want)
		}
	}
}

// P2.1: of Plus, what is no time counts as the nearest one, t and long alike.
func TestPlusOfNoTimes(t *testing.T) {
	for _, c := range []struct{ t, long, want int64 }{
		{-5, 3, 3}, {3, -5, 3}, {-5, -3, 0}, {-1, 0, 0}, {0, -1, 0},
		{math.MinInt64, 7, 7}, {7, math.MinInt64, 7}, {math.MinInt64, math.MinInt64, 0},
		{api.Never + 1, 0, api.Never}, {0, api.Never + 1, api.Never}, {api.Never + 1, -1, api.Never},
		{math.MaxInt64, math.MinInt64, api.Never}, {math.MinInt64, math.MaxInt64, api.Never},
		{math.MaxInt64, 1, api.Never}, {1, math.MaxInt64, api.Never},
	} {
		if got := when.Plus(c.t, c.long); got != c.want {
			t.Errorf("Plus(%d, %d) = %d, not %d", c.t, c.long, got, c.want)
		}
	}
}

// P2.1: how long from t to to, 0 if to is not later.
func TestLeft(t *testing.T) {
	for _, c := range []struct{ t, to, want int64 }{
		{0, 0, 0}, {0, 5, 5}, {3, 4, 1}, {4, 4, 0}, {5, 4, 0}, {9, 0, 0},
		{0, api.Never, api.Never}, {1, api.Never, api.Never - 1}, {api.Never - 1, api.Never, 1},
		{api.Never, api.Never, 0}, {api.Never, api.Never - 1, 0}, {api.Never, 0, 0},
	} {
		if got := when.Left(c.t, c.to); got != c.want {
			t.Errorf("Left(%d, %d) = %d, not %d", c.t, c.to, got, c.want)
		}
	}
}

// P2.1: of Left, both count as the nearest times.
func TestLeftOfNoTimes(t *testing.T) {
	for _, c := range []struct{ t, to, want int64 }{
		{-5, 3, 3}, {3, -5, 0}, {-5, -3, 0}, {-3, -5, 0}, {-1, 0, 0}, {0, -1, 0},
		{math.MinInt64, 7, 7}, {7, math.MinInt64, 0}, {math.MinInt64, math.MaxInt64, api.Never}, {math.MaxInt64, math.MinInt64, 0},
		{api.Never, api.Never + 1, 0}, {api.Never + 1, math.MaxInt64, 0}, {api.Never - 1, math.MaxInt64, 1}, {math.MaxInt64, api.Never - 1, 0},
		{math.MinInt64, api.Never, api.Never}, {0, math.MaxInt64, api.Never},
	} {
		if got := when.Left(c.t, c.to); got != c.want {
			t.Errorf("Left(%d, %d) = %d, not %d", c.t, c.to, got, c.want)
		}
	}
}

// P2.1: Right, Plus and Left hold against numbers that have no end.
func TestTimesByGreatNumbers(t *testing.T) {
	for _, a := range edges() {
		if want := nearest(a).Cmp(big.NewInt(a)) == 0; when.Right(a) != want {
			t.Errorf("Right(%d) = %v", a, !want)
		}
		for _, b := range edges() {
			sum := new(big.Int).Add(nearest(a), nearest(b))
			if sum.Cmp(big.NewInt(api.Never)) > 0 {
				sum.SetInt64(api.Never)
			}
			if got := when.Plus(a, b); sum.Cmp(big.NewInt(got)) != 0 {
				t.Errorf("Plus(%d, %d) = %d, not %v", a, b, got, sum)
			}
			left := new(big.Int).Sub(nearest(b), nearest(a))
			if left.Sign() < 0 {
				left.SetInt64(0)
			}
			if got := when.Left(a, b); left.Cmp(big.NewInt(got)) != 0 {
				t.Errorf("Left(%d, %d) = %d, not %v", a, b, got, left)
			}
		}
	}
}

// P2.2: spans that are told in words: apart, side by side, crossing, one in the other, empty, upside down.
func TestSpans(t *testing.T) {
	for _, c := range []struct {
		a, b, c, d    int64
		meets, within bool
	}{
		{0, 5, 5, 9, false, false}, {5, 9, 0, 5, false, false}, {0, 5, 7, 9, false, false}, {7, 9, 0, 5, false, false},
		{0, 6, 5, 9, true, false}, {5, 9, 0, 6, true, false}, {0, 5, 0, 5, true, true}, {4, 5, 4, 5, true, true},
		{2, 4, 0, 9, true, true}, {0, 9, 2, 4, true, false}, {0, 4, 0, 9, true, true}, {2, 9, 0, 9, true, true},
		{0, 9, 0, 4, true, false}, {0, 9, 2, 9, true, false}, {0, 9, 1, 9, true, false}, {0, 9, 0, 8, true, false},
		{4, 4, 2, 9, false, true}, {2, 9, 4, 4, false, false}, {4, 4, 4, 4, false, true}, {4, 4, 7, 7, false, true},
		{9, 2, 4, 5, false, true}, {4, 5, 9, 2, false, false}, {9, 2, 9, 2, false, true}, {5, 4, 20, 30, false, true},
		{-9, -2, -5, -3, true, false}, {-5, -3, -9, -2, true, true}, {-5, -3, 0, 9, false, false}, {-5, 3, 0, 9, true, false}, {-5, 0, 0, 9, false, false},
		{api.Never, api.Never + 1, api.Never, api.Never + 1, true, true}, {api.Never + 1, api.Never + 3, api.Never, math.MaxInt64, true, true},
		{api.Never + 1, api.Never + 3, 0, api.Never, false, false}, {api.Never + 1, api.Never + 3, 0, api.Never + 2, true, false},
		{math.MinInt64, math.MaxInt64, -1, 0, true, false}, {-1, 0, math.MinInt64, math.MaxInt64, true, true},
		{math.MaxInt64, math.MinInt64, 0, 1, false, true}, {math.MaxInt64, math.MaxInt64, 0, 1, false, true},
		{math.MaxInt64 - 1, math.MaxInt64, 0, math.MaxInt64, true, true}, {math.MinInt64, math.MinInt64 + 1, math.MinInt64, 0, true, true},
	} {
		if got := when.Meets(c.a, c.b, c.c, c.d); got != c.meets {
			t.Errorf("Meets(%d, %d, %d, %d) = %v", c.a, c.b, c.c, c.d, got)
		}
		if got := when.Within(c.a, c.b, c.c, c.d); got != c.within {
			t.Errorf("Within(%d, %d, %d, %d) = %v", c.a, c.b, c.c, c.d, got)
		}
	}
}

// P2.2: all spans of a small window, time by time, wherever the window lies, below 0 and above Never too.
func TestSpansTimeByTime(t *testing.T) {
	const wide = 6
	for _, first := range []int64{0, 10, -3, math.MinInt64, api.Never - 3, math.MaxInt64 - wide + 1} {
		var xs []int64
		for n := range int64(wide) {
			xs = append(xs, first+n)
		}
		checkSpans(t, xs)
	}
}

// P2.2: spans from any edge to any other; from one edge to the next nothing changes, so that the edges tell them apart.
func TestSpansOfEdges(t *testing.T) {
	checkSpans(t, edges())
}

// checkSpans holds Meets and Within of all spans between two of xs against the plain way.
func checkSpans(t *testing.T, xs []int64) {
	t.Helper()
	for _, a := range xs {
		for _, b := range xs {
			for _, c := range xs {
				for _, d := range xs {
					meets, within := spans(a, b, c, d, xs)
					if when.Meets(a, b, c, d) != meets || when.Within(a, b, c, d) != within {
						t.Fatalf("spans %d to %d and %d to %d: not %v, %v", a, b, c, d, meets, within)
					}
				}
			}
		}
	}
}

// P2.3: Plus never goes down, nor above Never, and what is more stays more.
func TestPlusGoesUp(t *testing.T) {
	e := edges()
	for i, a := range e {
		for j, b := range e {
			got := when.Plus(a, b)
			if !when.Right(got) || big.NewInt(got).Cmp(nearest(a)) < 0 {
				t.Errorf("Plus(%d, %d) = %d", a, b, got)
			}
			if i > 0 && when.Plus(e[i-1], b) > got || j > 0 && when.Plus(a, e[j-1]) > got {
				t.Errorf("Plus(%d, %d) = %d is below that of a lesser number", a, b, got)
			}
		}
	}
}

// P2.3: Plus(t, Left(t, to)) is the later one of the two.
func TestPlusOfLeft(t *testing.T) {
	for _, a := range edges() {
		for _, b := range edges() {
			later := nearest(a)
			if n := nearest(b); n.Cmp(later) > 0 {
				later = n
			}
			if got := when.Plus(a, when.Left(a, b)); later.Cmp(big.NewInt(got)) != 0 {
				t.Errorf("Plus(%d, Left(%d, %d)) = %d, not %v", a, a, b, got, later)
			}
		}
	}
}

// P2.3: what is within a span meets it, unless it is empty; an empty one meets nothing.
func TestWithinMeets(t *testing.T) {
	e := edges()
	for _, a := range e {
		for _, b := range e {
			for _, c := range e {
				for _, d := range e {
					meets, within := when.Meets(a, b, c, d), when.Within(a, b, c, d)
					if a < b && within && !meets || a >= b && (meets || !within) {
						t.Fatalf("spans %d to %d and %d to %d: %v, %v", a, b, c, d, meets, within)
					}
				}
			}
		}
	}
}
