package job_test

import (
	"math"
	"slices"
	"strings"

	"bailiwick/api"
)

// How a state's From may be: nought, a time from Came on, or either.
const (
	nought = iota
	time
	either
)

// stand tells of a state, by its number.
type stand struct {
	state int
	name  string
	end   bool
	from  int
}

// stands are the states, as the document tells them.
func stands() []stand {
	return []stand{
		{0, "waits", false, nought}, {1, "holds", false, nought}, {2, "runs", false, time},
		{3, "done", true, time}, {4, "ended", true, time}, {5, "cancelled", true, either}, {6, "refused", true, nought},
	}
}

// step is a state, what happens in it, and the state behind it.
type step struct{ state, what, next int }

// steps are all that happens, as the document tells it.
func steps() []step {
	return []step{
		{0, 1, 1}, {0, 3, 2}, {0, 6, 5}, {0, 7, 6},
		{1, 2, 0}, {1, 6, 5}, {1, 7, 6},
		{2, 4, 3}, {2, 5, 4}, {2, 6, 5},
	}
}

// isTime says whether t is a time.
func isTime(t int64) bool { return 0 <= t && t <= 1<<62 }

// stood says whether a job's state and its times may be, as the document tells it.
func stood(state int, came, from, to int64) bool {
	at := slices.IndexFunc(stands(), func(s stand) bool { return s.state == state })
	if at < 0 || !isTime(came) {
		return false
	}
	s := stands()[at]
	begun := isTime(from) && came <= from
	if s.from == nought && from != 0 || s.from == time && !begun || s.from == either && from != 0 && !begun {
		return false
	}
	if !s.end {
		return to == 0
	}
	return isTime(to) && came <= to && from <= to
}

// needed says whether a job of a number that may be may need these, as the document tells it: each is held against each.
func needed(id int, l []int) bool {
	for i, n := range l {
		if n < 1 || n > id-1 {
			return false
		}
		for _, o := range l[:i] {
			if o >= n {
				return false
			}
		}
	}
	return len(l) <= 16
}

// do is the job behind what happens to it, as the document tells it, where all of it may be but maybe its state and times.
func do(j api.Job, what int, now int64) (api.Job, api.Errno) {
	if !stood(j.State, j.Came, j.From, j.To) || what < 1 || 7 < what || !isTime(now) || now < j.Came || now < j.From {
		return j, api.ErrArg
	}
	at := slices.IndexFunc(steps(), func(s step) bool { return s.state == j.State && s.what == what })
	if at < 0 {
		return j, api.ErrState
	}
	j.State = steps()[at].next
	if j.State == 2 {
		j.From = now
	}
	if stands()[j.State].end {
		j.To = now
	}
	return j, api.OK
}

// same says whether two jobs are the same; no needs are as good as empty ones.
func same(a, b api.Job) bool {
	return a.ID == b.ID && a.Spec == b.Spec && slices.Equal(a.Needs, b.Needs) && a.State == b.State && a.Came == b.Came && a.From == b.From && a.To == b.To
}

// fresh is a job that waits since 4, and needs two.
func fresh() api.Job {
	return api.Job{ID: 9, Spec: api.Spec{Nodes: 2, Cores: 3, Gpus: 1, Tag: "fast", Long: 5, Prio: -7}, Needs: []int{2, 8}, Came: 4}
}

// times are numbers, rising: times, and at both ends such as are none.
func times() []int64 {
	return []int64{math.MinInt64, -api.Never, -4, -1, 0, 1, 4, 5, 1<<32 + 4, api.Never - 1, api.Never, api.Never + 1, math.MaxInt64}
}

// states are all states, and numbers that are none.
func states() []int {
	return []int{math.MinInt, -1 << 32, -2, -1, 0, 1, 2, 3, 4, 5, 6, 7, 8, 1 << 32, 1<<32 + 2, math.MaxInt}
}

// whats are all that happens, and numbers that are none of it.
func whats() []int {
	return []int{math.MinInt, -1 << 32, -2, -1, 0, 1, 2, 3, 4, 5, 6, 7, 8, 9, 1 << 32, 1<<32 + 3, math.MaxInt}
}

// stoods are jobs of all these states, with all these times, most of which may not be.
func stoods() []api.Job {
	var out []api.Job
	for _, state := range states() {
		for _, came := range times() {
			for _, from := range times() {
				for _, to := range times() {
					j := fresh()
					j.State, j.Came, j.From, j.To = state, came, from, to
					out = append(out, j)
				}
			}
		}
	}
	return out
}

// rights are those of these that may be.
func rights() []api.Job {
	return slices.DeleteFunc(stoods(), func(j api.Job) bool { return !stood(j.State, j.Came, j.From, j.To) })
}

// eachState is a job in each state, and one that was cancelled ahead of its beginning.
func eachState() []api.Job {
	var out []api.Job
	for _, s := range stands() {
		j := fresh()
		j.State = s.state
		if s.from != nought {
			j.From = 6
		}
		if s.end {
			j.To = 8
		}
		out = append(out, j)
	}
	j := out[5]
	j.From = 0
	return append(out, j)
}

// specs are such as may be asked for.
func specs() []api.Spec {
	return []api.Spec{
		fresh().Spec, {Nodes: 1, Whole: true, Long: 1}, {Nodes: 1, Cores: 1, Long: 1}, {Nodes: 1, Gpus: 1, Long: 1, Prio: -1000},
		{Nodes: 64, Cores: 64, Gpus: 64, Tag: "0123456789abcxyz", Whole: true, Long: 1 << 40, Prio: 1000},
	}
}

// noSpecs are such as may not be asked for: each is one that may, but at one place.
func noSpecs() []api.Spec {
	out := []api.Spec{{}, {Nodes: 1, Long: 1}}
	for _, s := range specs() {
		for _, change := range []func(s *api.Spec){
			func(s *api.Spec) { s.Nodes = 0 }, func(s *api.Spec) { s.Nodes = -1 }, func(s *api.Spec) { s.Nodes = 65 },
			func(s *api.Spec) { s.Cores = -1 }, func(s *api.Spec) { s.Cores = 65 }, func(s *api.Spec) { s.Gpus = -1 }, func(s *api.Spec) { s.Gpus = 65 },
			func(s *api.Spec) { s.Cores, s.Gpus, s.Whole = 0, 0, false },
			func(s *api.Spec) { s.Tag = "Fast" }, func(s *api.Spec) { s.Tag = "a b" }, func(s *api.Spec) { s.Tag = strings.Repeat("a", 17) },
			func(s *api.Spec) { s.Long = 0 }, func(s *api.Spec) { s.Long = -1 }, func(s *api.Spec) { s.Long = 1<<40 + 1 },
			func(s *api.Spec) { s.Prio = 1001 }, func(s *api.Spec) { s.Prio = -1001 },
		} {
			bad := s
			change(&bad)
			out = append(out, bad)
		}
	}
	return out
}

// ids may be a job's number, and noIDs may not.
func ids() []int { return []int{1, 2, 3, 17, 18, 64, 65, 1000, 1 << 16, 1<<30 - 1, 1 << 30} }
func noIDs() []int {
	return []int{math.MinInt, -1 << 32, -1<<32 + 1, -1 << 30, -2, -1, 0, 1<<30 + 1, 1 << 31, 1 << 32, 1<<32 + 1, 1 << 62, math.MaxInt}
}

// upTo are the numbers of which the last is n, rising, so many of them.
func upTo(n, many int) []int {
	var out []int
	for k := range many {
		out = append(out, n-many+1+k)
	}
	return out
}

// lists are all lists of at most so many numbers from least to most.
func lists(many, least, most int) [][]int {
	out := [][]int{nil}
	for at := 0; at < len(out); at++ {
		if len(out[at]) == many {
			break
		}
		for n := least; n <= most; n++ {
			out = append(out, append(slices.Clone(out[at]), n))
		}
	}
	return out
}

// noNeeds are lists that the job may not need, each wrong at one place.
func noNeeds(id int) [][]int {
	out := [][]int{{id}, {id + 1}, {0}, {-1}, {math.MinInt}, {math.MaxInt}, {1 << 32}, make([]int, 300)}
	if id > 2 {
		out = append(out, []int{1, 1}, []int{id - 1, id - 1}, []int{2, 1}, []int{1, id}, []int{0, 1}, []int{-1, 1}, []int{1, id - 1, id - 1}, []int{1, id - 1, 1})
	}
	if id > 17 {
		out = append(out, upTo(id-1, 17), upTo(17, 17), append(upTo(15, 15), 15), append(upTo(15, 15), id), append(upTo(15, 15), 14))
	}
	if id > 300 {
		out = append(out, upTo(id-1, 18), upTo(id-1, 32), upTo(id-1, 256+16), upTo(id-1, 299))
	}
	return out
}

// wrong are jobs that may not be, in all states: each is one that may, but for its number, its spec or what it needs.
func wrong() []api.Job {
	var out []api.Job
	for _, j := range eachState() {
		for _, s := range noSpecs() {
			bad := j
			bad.Spec = s
			out = append(out, bad)
		}
		for _, id := range noIDs() {
			bad, alone := j, j
			bad.ID, alone.ID, alone.Needs = id, id, nil
			out = append(out, bad, alone)
		}
		for _, id := range ids() {
			for _, l := range noNeeds(id) {
				bad := j
				bad.ID, bad.Needs = id, l
				out = append(out, bad)
			}
		}
	}
	return append(out, api.Job{})
}
