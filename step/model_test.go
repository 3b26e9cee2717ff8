package step_test

import (
	"bailiwick/api"
)

// wide is how many times side by side a window has.
const wide = 5

// window is what is free at times side by side: base[k] at first+k. What is free at its last time is free behind it, up to Never.
// Ahead of it, from 0 on, as much is free as ahead says (where first is above 0).
type window struct {
	first int64
	ahead int
	base  [wide]int
}

// free is what is free at a time, told without a profile.
func (w window) free(t int64) int {
	if t < w.first {
		return w.ahead
	}
	return w.base[min(t-w.first, wide-1)]
}

// times are all times at which something may change: 0, and those of the window.
func (w window) times() []int64 {
	var out []int64
	if w.first > 0 {
		out = append(out, 0)
	}
	for k := range int64(wide) {
		out = append(out, w.first+k)
	}
	return out
}

// profile is the window's profile: a step at each time of another number than the one ahead.
func (w window) profile() []api.Step {
	var p []api.Step
	for _, t := range w.times() {
		if f := w.free(t); len(p) == 0 || p[len(p)-1].Free != f {
			p = append(p, api.Step{At: t, Free: f})
		}
	}
	return p
}

// least and most of the span, time by time.
func (w window) least(from, to int64) (least, most int) {
	least, most = w.free(from), w.free(from)
	for _, t := range w.times() {
		if from <= t && t < to {
			least, most = min(least, w.free(t)), max(most, w.free(t))
		}
	}
	return least, most
}

// plus is the window with n more in the span from one of its times to another.
func (w window) plus(from, to int64, n int) window {
	out := w
	if from < w.first {
		out.ahead += n
	}
	for k := range out.base {
		if t := w.first + int64(k); from <= t && t < to {
			out.base[k] += n
		}
	}
	return out
}

// start is the earliest time of the window, from from on, from which on n is free for so long: each time is tried.
func (w window) start(from, long int64, n int) (int64, bool) {
	for t := from; t < min(w.first+wide, api.Never); t++ {
		to := api.Never
		if long < api.Never-t {
			to = t + long
		}
		if least, _ := w.least(t, to); least >= n {
			return t, true
		}
	}
	return 0, false
}

// windows are all windows of these numbers, at 0 and at where Never is the last time.
func windows(frees ...int) []window {
	var out []window
	count := 1
	for range wide {
		count *= len(frees)
	}
	for _, first := range []int64{0, api.Never - wide + 1} {
		for code := range count {
			w := window{first: first, ahead: frees[0]}
			for k := range w.base {
				w.base[k] = frees[code%len(frees)]
				code /= len(frees)
			}
			out = append(out, w)
		}
	}
	return out
}
