package job_test

import (
	"math"
	"testing"

	"bailiwick/api"
	"bailiwick/job"
)

// wantDo tells where Do answers otherwise than the document's words.
func wantDo(t *testing.T, j api.Job, what int, now int64) {
	t.Helper()
	want, e := do(j, what, now)
	if got, g := job.Do(j, what, now); g != e || !same(got, want) {
		t.Fatalf("Do(%+v, %d, %d) = %+v, %v, not %+v, %v", j, what, now, got, g, want, e)
	}
}

// P11.1: what leads where, and which times it leaves. Told by hand.
func TestDo(t *testing.T) {
	jobs := eachState()
	waits, holds, runs := jobs[api.Waits], jobs[api.Holds], jobs[api.Runs]
	for _, c := range []struct {
		j        api.Job
		what     int
		state    int
		from, to int64
	}{
		{waits, api.DoHold, api.Holds, 0, 0}, {waits, api.DoStart, api.Runs, 9, 0}, {waits, api.DoCancel, api.Cancelled, 0, 9}, {waits, api.DoRefuse, api.Refused, 0, 9},
		{holds, api.DoFree, api.Waits, 0, 0}, {holds, api.DoCancel, api.Cancelled, 0, 9}, {holds, api.DoRefuse, api.Refused, 0, 9},
		{runs, api.DoEnd, api.Done, 6, 9}, {runs, api.DoOver, api.Ended, 6, 9}, {runs, api.DoCancel, api.Cancelled, 6, 9},
	} {
		want := c.j
		want.State, want.From, want.To = c.state, c.from, c.to
		if got, e := job.Do(c.j, c.what, 9); e != api.OK || !same(got, want) {
			t.Errorf("Do(%+v, %d, 9) = %+v, %v", c.j, c.what, got, e)
		}
	}
}

// P11.1: ErrState, and the job as it is, of all that doesn't happen in its state.
func TestDoNotNow(t *testing.T) {
	jobs := eachState()
	for _, c := range []struct {
		j     api.Job
		whats []int
	}{
		{jobs[api.Waits], []int{api.DoFree, api.DoEnd, api.DoOver}},
		{jobs[api.Holds], []int{api.DoHold, api.DoStart, api.DoEnd, api.DoOver}},
		{jobs[api.Runs], []int{api.DoHold, api.DoFree, api.DoStart, api.DoRefuse}},
		{jobs[api.Done], []int{1, 2, 3, 4, 5, 6, 7}}, {jobs[api.Ended], []int{1, 2, 3, 4, 5, 6, 7}}, {jobs[api.Refused], []int{1, 2, 3, 4, 5, 6, 7}},
		{jobs[api.Cancelled], []int{1, 2, 3, 4, 5, 6, 7}}, {jobs[7], []int{1, 2, 3, 4, 5, 6, 7}},
	} {
		for _, what := range c.whats {
			// At 7 an ended job's end is still to come: that is no error of the time.
			for _, now := range []int64{6, 7, 8, 9, api.Never} {
				if got, e := job.Do(c.j, what, now); e != api.ErrState || !same(got, c.j) {
					t.Errorf("Do(%+v, %d, %d) = %+v, %v", c.j, what, now, got, e)
				}
			}
		}
	}
}

// P11.1: ErrArg, and the job as it is, of a time that may not be, in whatever state, whatever happens.
func TestDoWrongTime(t *testing.T) {
	for _, j := range eachState() {
		wrong := []int64{math.MinInt64, -api.Never, -1, 0, 3, api.Never + 1, math.MaxInt64}
		if j.From > 0 {
			wrong = append(wrong, 4, 5)
		}
		for _, now := range wrong {
			for _, what := range whats() {
				if got, e := job.Do(j, what, now); e != api.ErrArg || !same(got, j) {
					t.Errorf("Do(%+v, %d, %d) = %+v, %v", j, what, now, got, e)
				}
			}
		}
	}
}

// P11.1: ErrArg, and the job as it is, of what is none of the seven, in whatever state.
func TestDoWhatIsNone(t *testing.T) {
	for _, j := range eachState() {
		for _, what := range whats() {
			if what >= 1 && what <= 7 {
				continue
			}
			if got, e := job.Do(j, what, 9); e != api.ErrArg || !same(got, j) {
				t.Errorf("Do(%+v, %d, 9) = %+v, %v", j, what, got, e)
			}
		}
	}
}

// P11.1: ErrArg, and what was handed in as it is, of a job that may not be, whatever happens.
func TestDoOfWrong(t *testing.T) {
	for _, j := range wrong() {
		for _, what := range whats() {
			for _, now := range []int64{-1, 0, 3, 4, 6, 8, 9, api.Never, api.Never + 1} {
				if got, e := job.Do(j, what, now); e != api.ErrArg || !same(got, j) {
					t.Fatalf("Do(%+v, %d, %d) = %+v, %v", j, what, now, got, e)
				}
			}
		}
	}
}

// P11.1: all that may be and may not of states, times, what happens and when.
func TestDoByModel(t *testing.T) {
	for i, j := range stoods() {
		for k, what := range whats() {
			if !stood(j.State, j.Came, j.From, j.To) && (i+k)%5 > 0 {
				continue // of the many wrong ones a part will do
			}
			for _, now := range times() {
				wantDo(t, j, what, now)
			}
		}
	}
}

// P11.1: about Came, From and To, each time one by one.
func TestDoTimeByTime(t *testing.T) {
	for _, first := range []int64{0, 3, api.Never - 5} {
		for _, s := range stands() {
			for came := first; came < first+5; came++ {
				for from := range int64(6) {
					for to := range int64(6) {
						j := fresh()
						j.State, j.Came = s.state, came
						if s.from == time || s.from == either && from > 0 {
							j.From = came + from
						}
						if s.end {
							j.To = max(j.From, came) + to
						}
						for what := 1; what <= 7; what++ {
							for now := first - 1; now < first+12; now++ {
								wantDo(t, j, what, now)
							}
						}
					}
				}
			}
		}
	}
}

// P11.1: all else of a job stays as it is, whatever its number, its spec and its needs.
func TestDoLeavesTheRest(t *testing.T) {
	for _, j := range eachState() {
		for _, j.ID = range ids() {
			for _, j.Spec = range specs() {
				for _, j.Needs = range [][]int{nil, {}, upTo(j.ID-1, min(j.ID-1, 1)), upTo(j.ID-1, min(j.ID-1, 16)), upTo(min(j.ID-1, 16), min(j.ID-1, 16))} {
					for what := 0; what <= 8; what++ {
						for _, now := range []int64{0, 4, 6, 9, api.Never} {
							wantDo(t, j, what, now)
						}
					}
				}
			}
		}
	}
}
