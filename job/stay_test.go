package job_test

import (
	"testing"

	"bailiwick/api"
	"bailiwick/job"
)

// P11.3: a job stays one that may be, whatever is asked of it, beside an error too.
func TestStaysRight(t *testing.T) {
	for _, j := range rights() {
		for _, what := range whats() {
			for _, now := range times() {
				if got, e := job.Do(j, what, now); !job.Right(got) {
					t.Fatalf("Do(%+v, %d, %d) = %+v, %v", j, what, now, got, e)
				}
			}
		}
	}
}

// P11.3: from an end nothing leads.
func TestNothingLeadsFromAnEnd(t *testing.T) {
	for _, j := range rights() {
		if !job.Over(j.State) {
			continue
		}
		for _, what := range whats() {
			for _, now := range times() {
				if got, e := job.Do(j, what, now); e == api.OK || !same(got, j) {
					t.Fatalf("Do(%+v, %d, %d) = %+v, %v", j, what, now, got, e)
				}
			}
		}
	}
}

// P11.3: only what waits begins.
func TestOnlyWhatWaitsBegins(t *testing.T) {
	for _, j := range rights() {
		for _, what := range whats() {
			for _, now := range times() {
				got, e := job.Do(j, what, now)
				begins := e == api.OK && got.State == api.Runs
				if begins != (e == api.OK && what == api.DoStart) || begins && (j.State != api.Waits || got.From != now) {
					t.Fatalf("Do(%+v, %d, %d) = %+v, %v", j, what, now, got, e)
				}
			}
		}
	}
}

// P11.3: all that can happen to a job, one behind the other, at the same time and at later ones: it begins once only, its beginning and its end stay, and behind its end nothing happens.
func TestLives(t *testing.T) {
	for _, later := range []int64{0, 1, 1 << 40} {
		for _, l := range lists(6, 1, 7) {
			j, now, starts := fresh(), fresh().Came, 0
			for _, what := range l {
				now += later
				was := j
				got, e := job.Do(j, what, now)
				j = got
				if e == api.OK && what == api.DoStart {
					starts++
				}
				if starts > 1 || !job.Right(j) || j.Came != was.Came || was.From != 0 && j.From != was.From || job.Over(was.State) && (e != api.ErrState || !same(j, was)) {
					t.Fatalf("of %v: %+v behind %+v, %v", l, j, was, e)
				}
			}
			if ran := j.State == api.Runs || j.State == api.Done || j.State == api.Ended; ran && starts != 1 {
				t.Fatalf("of %v: %+v has begun %d times", l, j, starts)
			}
		}
	}
}

// P11.3: each state is come to from a fresh job, so that none of the above holds of nothing.
func TestEachStateIsComeTo(t *testing.T) {
	for state, l := range [][]int{
		{api.DoHold, api.DoFree}, {api.DoHold}, {api.DoStart}, {api.DoHold, api.DoFree, api.DoStart, api.DoEnd}, {api.DoStart, api.DoOver}, {api.DoHold, api.DoCancel}, {api.DoHold, api.DoRefuse},
	} {
		j := fresh()
		for _, what := range l {
			got, e := job.Do(j, what, 7)
			if e != api.OK {
				t.Errorf("Do(%+v, %d, 7): %v", j, what, e)
			}
			j = got
		}
		if j.State != state {
			t.Errorf("%v leads to %s, not to %s", l, job.Name(j.State), job.Name(state))
		}
	}
}
