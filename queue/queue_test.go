package queue_test

import (
	"slices"
	"testing"

	"bailiwick/api"
	"bailiwick/queue"
)

// P12.1: lists that are queues, and such as are none. Told by hand.
func TestRight(t *testing.T) {
	for _, c := range []struct {
		l    []api.Job
		want bool
	}{
		{nil, true}, {[]api.Job{}, true}, {[]api.Job{in(1, 0, 0)}, true}, {[]api.Job{in(7, 5, 3)}, true}, {[]api.Job{in(1<<30, 2, api.Never)}, true},
		{[]api.Job{{}}, false}, {[]api.Job{in(0, 0, 0)}, false}, {[]api.Job{in(1<<30+1, 0, 0)}, false}, {[]api.Job{in(1, 7, 0)}, false}, {[]api.Job{in(1, 0, -1)}, false},

		{[]api.Job{in(1, 0, 0), in(2, 0, 0)}, true}, {[]api.Job{in(1, 0, 0), in(9, 0, 0)}, true}, {[]api.Job{in(1, 0, 0), in(1, 0, 0)}, false}, {[]api.Job{in(2, 0, 0), in(1, 0, 0)}, false},
		{[]api.Job{in(1, 0, 0), in(4, 0, 0), in(3, 0, 0)}, false}, {[]api.Job{in(1, 0, 0), in(4, 0, 0), in(1, 0, 0)}, false},

		{[]api.Job{in(1, 0, 4), in(2, 0, 4), in(3, 0, 5)}, true}, {[]api.Job{in(1, 0, 4), in(2, 0, 3)}, false}, {[]api.Job{in(1, 0, 3), in(2, 0, 5), in(3, 0, 4)}, false},

		{[]api.Job{in(1, 0, 0), in(2, 0, 0, 1)}, true}, {[]api.Job{in(2, 0, 0, 1)}, false}, {[]api.Job{in(2, 0, 0), in(3, 0, 0, 1)}, false}, {[]api.Job{in(1, 0, 0), in(3, 0, 0, 2)}, false},
		{[]api.Job{in(1, 0, 0), in(3, 0, 0, 1), in(9, 0, 0, 1, 3)}, true}, {[]api.Job{in(1, 0, 0), in(3, 0, 0, 1), in(9, 0, 0, 1, 2, 3)}, false}, {[]api.Job{in(1, 0, 0), in(3, 0, 0, 1), in(9, 0, 0, 1, 4)}, false},
		// What isn't there isn't made good by how it stands who needs it, nor by one behind it.
		{[]api.Job{in(2, 5, 0, 1)}, false}, {[]api.Job{in(2, 3, 0, 1)}, false}, {[]api.Job{in(1, 0, 0, 2), in(2, 0, 0)}, false}, {[]api.Job{in(2, 0, 0, 2)}, false},
		// One may run, and be Done, whatever those do that it needs.
		{[]api.Job{in(1, 0, 0), in(2, 2, 0, 1)}, true}, {[]api.Job{in(1, 5, 0), in(2, 3, 0, 1)}, true},
	} {
		if queue.Right(c.l) != c.want {
			t.Errorf("Right(%+v) is %v", c.l, !c.want)
		}
	}
}

// P12.1: at most 64 jobs.
func TestRightManyJobs(t *testing.T) {
	for _, many := range []int{0, 1, 2, 62, 63, 64, 65, 66, 127, 128, 129, 256, 320, 1000} {
		for _, l := range [][]api.Job{row(many, many), row(many, 1<<30), chain(many, api.Done)} {
			if queue.Right(l) != (many <= 64) {
				t.Errorf("Right of %d jobs is %v", many, many > 64)
			}
		}
	}
}

// P12.1: all queues of few jobs, and many great ones.
func TestRightOfQueues(t *testing.T) {
	for _, l := range rights() {
		if !queue.Right(l) || !right(l) {
			t.Fatalf("Right(%+v) is %v", l, queue.Right(l))
		}
	}
}

// P12.1: what is wrong at one place is wrong.
func TestRightOfWrong(t *testing.T) {
	for _, l := range wrong() {
		if queue.Right(l) || right(l) {
			t.Fatalf("Right(%+v) is %v", l, queue.Right(l))
		}
	}
}

// P12.1: all lists of up to 3 jobs with a few numbers, times and needs, right or not.
func TestRightOfSmallLists(t *testing.T) {
	var jobs []api.Job
	for _, id := range []int{1, 2, 4} {
		for _, came := range []int64{3, 4} {
			for _, needs := range subsets([]int{1, 2, 4}) {
				jobs = append(jobs, in(id, api.Waits, came, needs...))
			}
		}
	}
	lists := [][]api.Job{nil}
	for at := 0; at < len(lists); at++ {
		l := lists[at]
		if queue.Right(l) != right(l) {
			t.Fatalf("Right(%+v) is %v", l, !right(l))
		}
		if len(l) == 3 {
			continue
		}
		for _, j := range jobs {
			lists = append(lists, append(slices.Clip(l), j))
		}
	}
}

// P12.1: in a great queue each job holds its place: none may stand at another's, nor come at another's time, where these differ.
func TestRightPlaceByPlace(t *testing.T) {
	for _, l := range [][]api.Job{web(64, 1), web(64, 2), row(64, 1<<30), chain(64, api.Cancelled), edges()} {
		for at := range l {
			for other := range l {
				swapped, when, number := deep(l), deep(l), deep(l)
				swapped[at], swapped[other] = swapped[other], swapped[at]
				number[at].ID = l[other].ID
				when[at] = urgent(in(l[at].ID, l[at].State, l[other].Came, l[at].Needs...), l[at].Spec.Prio)
				for _, m := range [][]api.Job{swapped, number, when} {
					if queue.Right(m) != right(m) {
						t.Fatalf("Right(%+v) is %v", m, !right(m))
					}
				}
			}
		}
	}
}

// P12.1: without one of its jobs a list is a queue just if nobody needs that one.
func TestRightWithoutOne(t *testing.T) {
	for _, l := range great() {
		for at, gone := range l {
			needed := slices.ContainsFunc(l, func(j api.Job) bool { return slices.Contains(j.Needs, gone.ID) })
			if m := slices.Delete(deep(l), at, at+1); queue.Right(m) == needed {
				t.Fatalf("Right of %+v without %d is %v", l, gone.ID, needed)
			}
		}
	}
}

// P12.1: Get is the job of that number, and of another one nothing, and false.
func TestGet(t *testing.T) {
	for _, l := range rights() {
		for _, id := range numbers(l) {
			want, there := api.Job{}, false
			for _, j := range l {
				if j.ID == id {
					want, there = j, true
				}
			}
			if got, ok := queue.Get(l, id); ok != there || !alike(got, want) {
				t.Fatalf("Get(%+v, %d) = %+v, %v", l, id, got, ok)
			}
		}
	}
}

// P12.1: each job of a great queue is got by its number.
func TestGetEach(t *testing.T) {
	for _, l := range great() {
		for _, j := range l {
			if got, ok := queue.Get(l, j.ID); !ok || !alike(got, j) {
				t.Fatalf("Get(%+v, %d) = %+v, %v", l, j.ID, got, ok)
			}
		}
	}
}

// P12.1: of a list that is no queue nothing is told, also not of the jobs in it that may be.
func TestGetOfWrong(t *testing.T) {
	for _, l := range wrong() {
		for _, id := range numbers(l) {
			if got, ok := queue.Get(l, id); ok || !alike(got, api.Job{}) || got.Needs != nil {
				t.Fatalf("Get(%+v, %d) = %+v, %v", l, id, got, ok)
			}
		}
	}
}
