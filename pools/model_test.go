package pools_test

import (
	"slices"

	"bailiwick/api"
)

// wide is how many times a row has.
const wide = 4

// row is what is free of one kind: free[k] from times[k] on, till the next of its times, which rise from 0 on.
type row struct {
	times [wide]int64
	free  [wide]int
}

// at is what is free at a time, told without a profile.
func (r row) at(t int64) int {
	n := r.free[0]
	for k, at := range r.times {
		if at <= t {
			n = r.free[k]
		}
	}
	return n
}

// profile is the row's profile: a step at each time of another number than the one ahead.
func (r row) profile() []api.Step {
	var p []api.Step
	for k, at := range r.times {
		if k == 0 || r.free[k] != r.free[k-1] {
			p = append(p, api.Step{At: at, Free: r.free[k]})
		}
	}
	return p
}

// within says whether from 0 up to most is free, with n added, at all times of the span.
func (r row) within(from, to int64, n, most int) bool {
	fits := func(free int) bool { return free+n >= 0 && free+n <= most }
	for k, at := range r.times {
		if from < at && at < to && !fits(r.free[k]) {
			return false
		}
	}
	return fits(r.at(from))
}

// plus is the row with n more in the span from one of its times up to another.
func (r row) plus(from, to int64, n int) row {
	out := r
	for k, at := range r.times {
		if from <= at && at < to {
			out.free[k] += n
		}
	}
	return out
}

// table is a row of each kind, all of the same times.
type table []row

// pools are the table's pools.
func (l table) pools() [][]api.Step {
	var out [][]api.Step
	for _, r := range l {
		out = append(out, r.profile())
	}
	return out
}

// start is the earliest time, from from on, from which on so much is free for so long: from and the table's later times are tried.
func (l table) start(from, long int64, n []int) (int64, bool) {
	for _, t := range append([]int64{from}, l[0].times[:]...) {
		if t < from || t >= api.Never {
			continue
		}
		to := api.Never
		if long < api.Never-t {
			to = t + long
		}
		fits := true
		for i, r := range l {
			fits = fits && r.within(t, to, -n[i], api.MaxFree)
		}
		if fits {
			return t, true
		}
	}
	return 0, false
}

// times are those of which the tests' rows are: side by side from 0 on, with a gap behind 0, and up to Never.
func times() [][wide]int64 {
	return [][wide]int64{{0, 1, 2, 3}, {0, 5, 6, 9}, {0, api.Never - 2, api.Never - 1, api.Never}}
}

// rows are all rows of these times and numbers.
func rows(times [wide]int64, frees ...int) []row {
	count := 1
	for range wide {
		count *= len(frees)
	}
	var out []row
	for code := range count {
		r := row{times: times}
		for k := range r.free {
			r.free[k] = frees[code%len(frees)]
			code /= len(frees)
		}
		out = append(out, r)
	}
	return out
}

// tables are tables of so many kinds out of rows: all of them for one or two kinds; for more, each such two with some others.
func tables(kinds int, rs []row) []table {
	var out []table
	for i, a := range rs {
		if kinds == 1 {
			out = append(out, table{a})
			continue
		}
		for j, b := range rs {
			l := table{a, b}
			for k := 2; k < kinds; k++ {
				l = append(l, rs[(i*7+j*5*k+k)%len(rs)])
			}
			out = append(out, l)
		}
	}
	return out
}

// steps is a profile, or none, of times and what is free from them on, by turns.
func steps(pairs ...int64) []api.Step {
	var p []api.Step
	for i := 0; i < len(pairs); i += 2 {
		p = append(p, api.Step{At: pairs[i], Free: int(pairs[i+1])})
	}
	return p
}

// stairs has so many steps, one at each time that divides by 10, where 5 and 6 are free by turns.
func stairs(count int) []api.Step {
	var p []api.Step
	for i := range count {
		p = append(p, api.Step{At: int64(i) * 10, Free: 5 + i%2})
	}
	return p
}

// list is the pools, or none, of these profiles.
func list(profiles ...[]api.Step) [][]api.Step { return profiles }

// equal says whether two lists of profiles say the same.
func equal(a, b [][]api.Step) bool { return slices.EqualFunc(a, b, slices.Equal[[]api.Step]) }

// deep is a copy of a list of profiles.
func deep(l [][]api.Step) [][]api.Step {
	var out [][]api.Step
	for _, p := range l {
		out = append(out, slices.Clone(p))
	}
	return out
}
