package queue_test

import (
	"math"
	"slices"

	"bailiwick/api"
	"bailiwick/job"
	"bailiwick/spec"
)

// right says whether l is a queue, as the document tells it: each two are held against each other.
func right(l []api.Job) bool {
	for i, j := range l {
		if i >= 64 || !job.Right(j) {
			return false
		}
		for _, o := range l[:i] {
			if o.ID >= j.ID || o.Came > j.Came {
				return false
			}
		}
		for _, n := range j.Needs {
			if !isThere(l, n) {
				return false
			}
		}
	}
	return true
}

// isThere says whether one of l has that number.
func isThere(l []api.Job, id int) bool {
	return slices.ContainsFunc(l, func(j api.Job) bool { return j.ID == id })
}

// stateOf is the state of the first of l with that number; -1, if there is none.
func stateOf(l []api.Job, id int) int {
	for _, j := range l {
		if j.ID == id {
			return j.State
		}
	}
	return -1
}

// rise says whether needs rise from 1 on: each is held against each.
func rise(needs []int) bool {
	for i, n := range needs {
		if n < 1 || slices.ContainsFunc(needs[:i], func(o int) bool { return o >= n }) {
			return false
		}
	}
	return true
}

// add is the queue with one job more, as the document tells it.
func add(l []api.Job, s api.Spec, needs []int, now int64) ([]api.Job, int, api.Errno) {
	last := api.Job{}
	for _, j := range l {
		last = j
	}
	missing := slices.ContainsFunc(needs, func(n int) bool { return !isThere(l, n) })
	switch {
	case !right(l), !spec.Right(s), !rise(needs), len(needs) > 16, now < 0, now > 1<<62, now < last.Came:
		return l, 0, api.ErrArg
	case missing:
		return l, 0, api.ErrNone
	case len(l) == 64:
		return l, 0, api.ErrFull
	case last.ID == 1<<30:
		return l, 0, api.ErrOver
	}
	one := api.Job{ID: last.ID + 1, Spec: s, Needs: slices.Clone(needs), State: 0, Came: now, From: 0, To: 0}
	return append(deep(l), one), one.ID, api.OK
}

// do is the queue behind what happens to one, as the document tells it.
func do(l []api.Job, id, what int, now int64) ([]api.Job, api.Errno) {
	if !right(l) {
		return l, api.ErrArg
	}
	out := deep(l)
	for at, j := range out {
		if j.ID == id {
			next, e := job.Do(j, what, now)
			out[at] = next
			return out, e
		}
	}
	return out, api.ErrNone
}

// isReady says whether a job of the queue l is ready, as the document tells it.
func isReady(l []api.Job, j api.Job) bool {
	return j.State == 0 && !slices.ContainsFunc(j.Needs, func(n int) bool { return stateOf(l, n) != 3 })
}

// ready is who is ready, as the document tells it: each time the first one of those that aren't told yet.
func ready(l []api.Job) []int {
	var out []int
	if !right(l) {
		return out
	}
	for {
		var next api.Job
		for _, j := range l {
			if isReady(l, j) && !slices.Contains(out, j.ID) && (next.ID == 0 || j.Spec.Prio > next.Spec.Prio) {
				next = j
			}
		}
		if next.ID == 0 {
			return out
		}
		out = append(out, next.ID)
	}
}

// isLost says whether a job of the queue l is lost, as the document tells it.
func isLost(l []api.Job, id int) bool {
	at := slices.IndexFunc(l, func(j api.Job) bool { return j.ID == id })
	if l[at].State != 0 && l[at].State != 1 {
		return false
	}
	return slices.ContainsFunc(l[at].Needs, func(n int) bool {
		switch stateOf(l, n) {
		case 4, 5, 6:
			return true
		}
		return isLost(l, n)
	})
}

// lost is who is lost, as the document tells it.
func lost(l []api.Job) []int {
	var out []int
	if !right(l) {
		return out
	}
	for _, j := range l {
		if isLost(l, j.ID) {
			out = append(out, j.ID)
		}
	}
	return out
}

// counts are how many are in each state: for each of them all are gone through.
func counts(l []api.Job) [7]int {
	var out [7]int
	if !right(l) {
		return out
	}
	for state := range out {
		for _, j := range l {
			if j.State == state {
				out[state]++
			}
		}
	}
	return out
}

// alike says whether two jobs say the same; no needs are as good as empty ones.
func alike(a, b api.Job) bool {
	return a.ID == b.ID && a.Spec == b.Spec && slices.Equal(a.Needs, b.Needs) && a.State == b.State && a.Came == b.Came && a.From == b.From && a.To == b.To
}

// equal says whether two lists of jobs say the same.
func equal(a, b []api.Job) bool { return slices.EqualFunc(a, b, alike) }

// deep is a copy of a list of jobs.
func deep(l []api.Job) []api.Job {
	var out []api.Job
	for _, j := range l {
		j.Needs = slices.Clone(j.Needs)
		out = append(out, j)
	}
	return out
}

// plain is a spec that may be.
func plain() api.Spec { return api.Spec{Nodes: 1, Cores: 1, Long: 5} }

// in is a job in a state, that came at a time, and needs these.
func in(id, state int, came int64, needs ...int) api.Job {
	j := api.Job{ID: id, Spec: plain(), Needs: needs, State: state, Came: came}
	if state == api.Runs || state == api.Done || state == api.Ended {
		j.From = min(came+1, api.Never)
	}
	if state > api.Runs {
		j.To = min(came+2, api.Never)
	}
	return j
}

// urgent is the job with that Prio.
func urgent(j api.Job, prio int) api.Job {
	j.Spec.Prio = prio
	return j
}

// subsets are all sets of these numbers.
func subsets(ids []int) [][]int {
	var out [][]int
	for bits := range 1 << len(ids) {
		var l []int
		for k, n := range ids {
			if bits>>k&1 == 1 {
				l = append(l, n)
			}
		}
		out = append(out, l)
	}
	return out
}

// queues are all queues of jobs with just these numbers, in all states, with all needs, and of these Prios.
func queues(ids []int, prios ...int) [][]api.Job {
	all := [][]api.Job{nil}
	for at, id := range ids {
		var more [][]api.Job
		for _, l := range all {
			for _, needs := range subsets(ids[:at]) {
				for state := range 7 {
					for _, prio := range prios {
						more = append(more, append(slices.Clip(l), urgent(in(id, state, int64(at/2), needs...), prio)))
					}
				}
			}
		}
		all = more
	}
	return all
}

// small are all queues of few jobs, with numbers at the beginning, with gaps, and at their end.
func small() [][]api.Job {
	return slices.Concat(
		queues(nil), queues([]int{1}, -3, 0, 2), queues([]int{1, 2}, -3, 0, 2), queues([]int{1, 2, 3}, 0, 1),
		queues([]int{2, 5}, 0), queues([]int{3, 7, 40}, 0), queues([]int{1, 1 << 30}, 0), queues([]int{1<<30 - 2, 1<<30 - 1, 1 << 30}, 0),
	)
}

// row is so many jobs, the numbers of which end with last, each of which needs nothing.
func row(many, last int) []api.Job {
	var l []api.Job
	for k := range many {
		l = append(l, in(last-many+1+k, k%7, int64(k/3)))
	}
	return l
}

// chain is so many jobs of which each needs the one ahead of it; the first is in that state, the others wait and are held.
func chain(many, state int) []api.Job {
	var l []api.Job
	for k := range many {
		if k == 0 {
			l = append(l, in(5, state, 0))
		} else {
			l = append(l, in(5+3*k, k%3/2, int64(k), 5+3*(k-1)))
		}
	}
	return l
}

// web is so many jobs of which each needs up to 16 others, ahead of it by rolls of a dice.
func web(many, seed int) []api.Job {
	roll := dice(seed)
	var l []api.Job
	id, came := 0, int64(0)
	for k := range many {
		id += 1 + roll(4)
		came += int64(roll(3))
		var needs []int
		for _, o := range l {
			if len(needs) < 16 && roll(8) == 0 {
				needs = append(needs, o.ID)
			}
		}
		state := roll(7)
		if k%4 > 0 {
			// Most are Done or wait, so that some are ready, and some of the others aren't lost.
			state = []int{api.Done, api.Done, api.Waits, api.Holds}[roll(4)]
		}
		l = append(l, urgent(in(id, state, came, needs...), roll(5)-2))
	}
	return l
}

// dice answers numbers below n, other ones each time, and of one seed always the same.
func dice(seed int) func(n int) int {
	next := uint32(seed)*2654435761 + 12345
	return func(n int) int {
		next = next*1664525 + 1013904223
		return int(next>>8) % n
	}
}

// edges is a queue of numbers and times at their bounds, and of one that needs as many as it may.
func edges() []api.Job {
	l := row(17, 17)
	for k := range l {
		l[k] = in(k+1, api.Done, 0)
	}
	return append(l,
		urgent(in(18, api.Waits, 0, 2, 3, 4, 5, 6, 7, 8, 9, 10, 11, 12, 13, 14, 15, 16, 17), 1000),
		urgent(in(1<<30-1, api.Waits, api.Never-1, 1, 17), -1000),
		urgent(in(1<<30, api.Waits, api.Never, 1), 1000),
	)
}

// great are queues of many jobs, up to as many as there may be.
func great() [][]api.Job {
	out := [][]api.Job{edges(), row(5, 5), row(63, 63), row(64, 64), row(63, 1<<30), row(64, 1<<30), row(64, 1<<30-1)}
	for state := range 7 {
		out = append(out, chain(9, state), chain(64, state))
	}
	for seed := range 6 {
		out = append(out, web(3+seed, seed), web(63, seed), web(64, seed))
	}
	return out
}

// webs are many more such queues.
func webs() [][]api.Job {
	var out [][]api.Job
	for seed := range 500 {
		out = append(out, web(1+seed%64, seed))
	}
	return out
}

// rights are all these queues.
func rights() [][]api.Job { return append(small(), great()...) }

// some are a part of these queues.
func some() [][]api.Job {
	return append(slices.Concat(queues([]int{1, 2}, 0), queues([]int{1<<30 - 1, 1 << 30}, 0), queues([]int{4}, 0), queues(nil)), great()...)
}

// wrongJobs are jobs that may not be, each at one place only otherwise than j, which waits and whose number is above 1.
func wrongJobs(j api.Job) []api.Job {
	var out []api.Job
	for _, change := range []func(j *api.Job){
		func(j *api.Job) { j.ID = 0 }, func(j *api.Job) { j.ID = -1 }, func(j *api.Job) { j.ID = 1<<30 + 1 }, func(j *api.Job) { j.ID = math.MinInt }, func(j *api.Job) { j.ID = math.MaxInt },
		func(j *api.Job) { j.Spec = api.Spec{} }, func(j *api.Job) { j.Spec.Nodes = 65 }, func(j *api.Job) { j.Spec.Prio = 1001 }, func(j *api.Job) { j.Spec.Tag = "A" },
		func(j *api.Job) { j.Needs = []int{0} }, func(j *api.Job) { j.Needs = []int{j.ID} }, func(j *api.Job) { j.Needs = []int{-1} }, func(j *api.Job) { j.Needs = []int{1, 1} }, func(j *api.Job) { j.Needs = make([]int, 17) },
		func(j *api.Job) { j.State = -1 }, func(j *api.Job) { j.State = 7 }, func(j *api.Job) { j.State = math.MinInt }, func(j *api.Job) { j.State = math.MaxInt },
		func(j *api.Job) { j.State, j.From = api.Runs, j.Came-1 }, func(j *api.Job) { j.State, j.To = api.Refused, j.Came-1 },
		func(j *api.Job) { j.Came = -1 }, func(j *api.Job) { j.Came = api.Never + 1 }, func(j *api.Job) { j.From = j.Came + 1 }, func(j *api.Job) { j.To = j.Came + 1 },
	} {
		bad := j
		change(&bad)
		out = append(out, bad)
	}
	return out
}

// wrong are lists that are no queues, most of them right but at one place.
func wrong() [][]api.Job {
	var out [][]api.Job
	for _, l := range [][]api.Job{{in(3, api.Waits, 4)}, {in(2, api.Done, 4), in(3, api.Waits, 4, 2), in(4, api.Waits, 9, 2, 3)}} {
		for at := range l {
			for _, bad := range wrongJobs(in(l[at].ID, api.Waits, l[at].Came, l[at].Needs...)) {
				m := deep(l)
				m[at] = bad
				out = append(out, m)
			}
		}
	}
	return append(out,
		row(65, 65), row(65, 1<<30), row(64+65, 200), chain(65, api.Done), make([]api.Job, 64), make([]api.Job, 300),
		[]api.Job{in(1, 0, 0), in(1, 0, 0)}, []api.Job{in(2, 0, 0), in(1, 0, 0)}, []api.Job{in(1, 0, 0), in(3, 0, 0), in(2, 0, 0)}, []api.Job{in(1, 0, 0), in(3, 0, 0), in(3, 3, 5)},
		[]api.Job{in(1, 0, 1), in(2, 0, 0)}, []api.Job{in(1, 0, 0), in(2, 0, api.Never), in(3, 0, api.Never-1)}, []api.Job{in(1, 0, 0), in(2, 0, 4), in(3, 0, 1), in(4, 0, 4)},
		[]api.Job{in(2, 0, 0, 1)}, []api.Job{in(2, 0, 0), in(3, 0, 0, 1)}, []api.Job{in(1, 0, 0), in(3, 0, 0, 2)}, []api.Job{in(1, 3, 0), in(3, 5, 0, 1, 2)}, []api.Job{in(2, 0, 0), in(5, 0, 0, 2, 3)}, []api.Job{in(1, 0, 0), in(4, 0, 0, 2), in(5, 0, 0)},
		[]api.Job{in(2, 0, 0), in(9, 0, 0, 8), in(10, 0, 0)}, append(web(63, 5), in(300, 0, api.Never, 299)),
	)
}

// moments are numbers at, about and far beyond the times of which l's jobs tell.
func moments(l []api.Job) []int64 {
	out := []int64{math.MinInt64, -api.Never, -1, 0, 1, 2, 3, 9, api.Never - 1, api.Never, api.Never + 1, math.MaxInt64}
	if len(l) > 0 {
		last := l[len(l)-1]
		out = append(out, last.Came-1, last.Came, last.Came+1, last.From, last.To)
	}
	return out
}

// numbers are numbers of jobs of l, of those beside them, and others.
func numbers(l []api.Job) []int {
	out := []int{math.MinInt, -1 << 32, -1, 0, 1, 2, 64, 65, 1 << 30, 1<<30 + 1, 1<<32 + 1, math.MaxInt}
	for at := 0; at < len(l); at += 1 + len(l)/7 {
		out = append(out, l[at].ID-1, l[at].ID, l[at].ID+1)
	}
	if len(l) > 0 {
		out = append(out, l[len(l)-1].ID)
	}
	return out
}
