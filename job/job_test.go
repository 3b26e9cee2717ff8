package job_test

import (
	"slices"
	"testing"

	"bailiwick/api"
	"bailiwick/job"
	"bailiwick/spec"
)

// P11.1: jobs that may be, and such as may not, for one thing. Told by hand.
func TestRight(t *testing.T) {
	s := fresh().Spec
	for _, c := range []struct {
		j    api.Job
		want bool
	}{
		{fresh(), true}, {api.Job{ID: 1, Spec: s}, true}, {api.Job{ID: 1 << 30, Spec: s, Needs: []int{1, 2, 1<<30 - 1}, Came: api.Never}, true},
		{api.Job{}, false}, {api.Job{ID: 1}, false}, {api.Job{Spec: s}, false}, {api.Job{ID: 1<<30 + 1, Spec: s}, false},
		{api.Job{ID: 1, Spec: s, Needs: []int{1}}, false}, {api.Job{ID: 2, Spec: s, Needs: []int{1}}, true}, {api.Job{ID: 3, Spec: s, Needs: []int{2, 1}}, false},

		{api.Job{ID: 1, Spec: s, State: api.Waits, Came: 4, From: 4}, false}, {api.Job{ID: 1, Spec: s, State: api.Waits, Came: 4, To: 4}, false},
		{api.Job{ID: 1, Spec: s, State: api.Holds, Came: 4}, true}, {api.Job{ID: 1, Spec: s, State: api.Holds, Came: 4, From: 4}, false}, {api.Job{ID: 1, Spec: s, State: api.Holds, Came: 4, To: 4}, false},

		{api.Job{ID: 1, Spec: s, State: api.Runs, Came: 4, From: 4}, true}, {api.Job{ID: 1, Spec: s, State: api.Runs, Came: 4, From: api.Never}, true},
		{api.Job{ID: 1, Spec: s, State: api.Runs, Came: 4, From: 3}, false}, {api.Job{ID: 1, Spec: s, State: api.Runs, Came: 4}, false}, {api.Job{ID: 1, Spec: s, State: api.Runs}, true},
		{api.Job{ID: 1, Spec: s, State: api.Runs, Came: 4, From: 4, To: 4}, false}, {api.Job{ID: 1, Spec: s, State: api.Runs, Came: 4, From: api.Never + 1}, false},

		{api.Job{ID: 1, Spec: s, State: api.Done, Came: 4, From: 6, To: 6}, true}, {api.Job{ID: 1, Spec: s, State: api.Done, Came: 4, From: 6, To: 5}, false},
		{api.Job{ID: 1, Spec: s, State: api.Done, Came: 4, To: 5}, false}, {api.Job{ID: 1, Spec: s, State: api.Done, Came: 4, From: 6}, false},
		{api.Job{ID: 1, Spec: s, State: api.Ended, Came: 4, From: 6, To: api.Never}, true}, {api.Job{ID: 1, Spec: s, State: api.Ended, Came: 4, From: 3, To: 5}, false},
		{api.Job{ID: 1, Spec: s, State: api.Ended, Came: 4, From: 6, To: api.Never + 1}, false}, {api.Job{ID: 1, Spec: s, State: api.Ended}, true},

		{api.Job{ID: 1, Spec: s, State: api.Cancelled, Came: 4, To: 4}, true}, {api.Job{ID: 1, Spec: s, State: api.Cancelled, Came: 4, To: 3}, false},
		{api.Job{ID: 1, Spec: s, State: api.Cancelled, Came: 4, From: 4, To: 4}, true}, {api.Job{ID: 1, Spec: s, State: api.Cancelled, Came: 4, From: 3, To: 5}, false}, {api.Job{ID: 1, Spec: s, State: api.Cancelled, Came: 4, From: 5, To: 4}, false},
		{api.Job{ID: 1, Spec: s, State: api.Refused, Came: 4, To: 4}, true}, {api.Job{ID: 1, Spec: s, State: api.Refused, Came: 4, To: 3}, false}, {api.Job{ID: 1, Spec: s, State: api.Refused, Came: 4, From: 4, To: 5}, false},

		{api.Job{ID: 1, Spec: s, State: 7}, false}, {api.Job{ID: 1, Spec: s, State: -1}, false}, {api.Job{ID: 1, Spec: s, Came: -1}, false}, {api.Job{ID: 1, Spec: s, Came: api.Never + 1}, false},
	} {
		if job.Right(c.j) != c.want {
			t.Errorf("Right(%+v) is %v", c.j, !c.want)
		}
	}
}

// P11.1: all states, also such as are none, with all times at all three places, also such as are none.
func TestRightByStateAndTimes(t *testing.T) {
	for _, j := range stoods() {
		if want := stood(j.State, j.Came, j.From, j.To); job.Right(j) != want {
			t.Fatalf("Right(%+v) is %v", j, !want)
		}
	}
}

// P11.1: of all states, each time of a few, one by one, at each place.
func TestRightTimeByTime(t *testing.T) {
	for _, first := range []int64{-3, 0, api.Never - 5} {
		for state := -1; state <= 7; state++ {
			for came := first; came < first+8; came++ {
				for from := first; from < first+8; from++ {
					for to := first; to < first+8; to++ {
						j := api.Job{ID: 1, Spec: fresh().Spec, State: state, Came: came, From: from, To: to}
						if want := stood(state, came, from, to); job.Right(j) != want {
							t.Fatalf("Right(%+v) is %v", j, !want)
						}
					}
				}
			}
		}
	}
}

// P11.1: the number is from 1 to 2^30, in all states.
func TestRightNumbers(t *testing.T) {
	for _, j := range eachState() {
		j.Needs = nil
		for _, id := range ids() {
			if j.ID = id; !job.Right(j) {
				t.Errorf("Right(%+v) is false", j)
			}
		}
		for _, id := range noIDs() {
			if j.ID = id; job.Right(j) {
				t.Errorf("Right(%+v) is true", j)
			}
		}
	}
}

// P11.1: the spec is one that may be, in all states.
func TestRightSpecs(t *testing.T) {
	for _, j := range eachState() {
		for _, s := range append(specs(), noSpecs()...) {
			if j.Spec = s; job.Right(j) != spec.Right(s) {
				t.Errorf("Right(%+v) is %v", j, !spec.Right(s))
			}
		}
	}
}

// P11.1: what a job may need: all lists of at most four numbers, of all small jobs.
func TestRightNeeds(t *testing.T) {
	for _, l := range lists(4, -1, 6) {
		for id := 1; id <= 7; id++ {
			j := fresh()
			j.ID, j.Needs = id, l
			if want := needed(id, l); job.Right(j) != want {
				t.Fatalf("Right(%+v) is %v", j, !want)
			}
		}
	}
}

// P11.1: at most 16 are needed, of however many there are.
func TestRightManyNeeds(t *testing.T) {
	for _, id := range ids() {
		for many := range 40 {
			for _, l := range [][]int{upTo(id-1, many), upTo(id, many), upTo(many, many), upTo(id-1, many/2)} {
				j := fresh()
				j.ID, j.Needs = id, l
				if want := needed(id, l); job.Right(j) != want {
					t.Fatalf("Right(%+v) is %v", j, !want)
				}
			}
		}
	}
	j := fresh()
	for _, j.ID = range []int{17, 18, 1 << 30} {
		j.Needs = upTo(j.ID-1, 16)
		if !job.Right(j) {
			t.Errorf("Right(%+v) is false", j)
		}
		for at := range j.Needs {
			for _, n := range []int{-1, 0, j.ID, j.Needs[(at+1)%16], 1 << 40} {
				bad := j
				bad.Needs = slices.Clone(j.Needs)
				if bad.Needs[at] = n; job.Right(bad) {
					t.Errorf("Right(%+v) is true", bad)
				}
			}
		}
	}
}

// P11.1: no needs may be an empty list as well as none.
func TestRightEmptyNeeds(t *testing.T) {
	for _, j := range eachState() {
		for _, j.Needs = range [][]int{nil, {}, make([]int, 0, 5)} {
			if !job.Right(j) {
				t.Errorf("Right(%+v) is false", j)
			}
		}
	}
}

// P11.1: what is wrong with number, spec or needs isn't made good by a state.
func TestRightOfWrong(t *testing.T) {
	for _, j := range wrong() {
		if job.Right(j) {
			t.Errorf("Right(%+v) is true", j)
		}
	}
}

// P11.2: which states are ends, and how each is called; of what is none neither holds.
func TestOverAndName(t *testing.T) {
	for _, s := range stands() {
		if job.Over(s.state) != s.end || job.Name(s.state) != s.name {
			t.Errorf("of %d: %v, %q", s.state, job.Over(s.state), job.Name(s.state))
		}
	}
	others := states()
	for n := -300; n <= 300; n++ {
		others = append(others, n)
	}
	for _, n := range others {
		if n >= 0 && n <= 6 {
			continue
		}
		if job.Over(n) || job.Name(n) != "" {
			t.Errorf("of %d: %v, %q", n, job.Over(n), job.Name(n))
		}
	}
}

// P11.2: the same by the names of api.
func TestOverAndNameByNames(t *testing.T) {
	for _, c := range []struct {
		state int
		name  string
		end   bool
	}{
		{api.Waits, "waits", false}, {api.Holds, "holds", false}, {api.Runs, "runs", false},
		{api.Done, "done", true}, {api.Ended, "ended", true}, {api.Cancelled, "cancelled", true}, {api.Refused, "refused", true},
	} {
		if job.Name(c.state) != c.name || job.Over(c.state) != c.end {
			t.Errorf("of %s: %q, %v", c.name, job.Name(c.state), job.Over(c.state))
		}
	}
}
