package inst

import (
	"slices"

	"bailiwick/api"
	"bailiwick/health"
	"bailiwick/held"
	"bailiwick/job"
	"bailiwick/match"
	"bailiwick/pick"
	"bailiwick/queue"
	"bailiwick/set"
	"bailiwick/when"
)

// worker has a scheduler that is right, in memory of its own, and works on it. What it has behind an error is of no use.
type worker struct {
	api.Inst
}

// submit adds a job that came now, and answers its number.
func (w *worker) submit(s api.Spec, needs []int) (int, api.Errno) {
	jobs, id, e := queue.Add(w.Jobs, s, needs, w.Now)
	w.Jobs = jobs
	return id, e
}

// do lets happen what may be asked for from outside: who begins, whose time is over, and who is refused, the scheduler says itself.
func (w *worker) do(id, what int) api.Errno {
	switch what {
	case api.DoHold, api.DoFree, api.DoEnd, api.DoCancel:
		return w.happens(id, what, w.Now)
	}
	return api.ErrArg
}

// tick lets the time be now, and whose time is over by then end at its own end.
func (w *worker) tick(now int64) api.Errno {
	if !when.Right(now) || now < w.Now {
		return api.ErrArg
	}
	w.Now = now
	_, over := held.Over(w.Table, now)
	for _, h := range over {
		w.happens(h.ID, api.DoOver, h.To)
	}
	return api.OK
}

// lend lets the lease be this one.
func (w *worker) lend(lease []int, until int64) api.Errno {
	if !things(w.Graph, lease) || !when.Right(until) {
		return api.ErrArg
	}
	w.Lease, w.Until = slices.Clone(lease), until
	return api.OK
}

// mark sets how thing n is.
func (w *worker) mark(n, how int) api.Errno {
	h, e := health.Set(w.Graph, w.Health, n, how)
	w.Health = h
	return e
}

// look lets it look round. Of what it does itself nothing fails, as the scheduler is right.
func (w *worker) look() {
	w.end()
	w.refuse()
	w.begin()
}

// end lets those be over who run on what it has no more, or on what doesn't work.
func (w *worker) end() {
	good := set.Meet(w.Lease, health.Works(w.Graph, w.Health))
	for _, h := range w.Table {
		if !set.Part(h.Things, good) {
			w.happens(h.ID, api.DoOver, w.Now)
		}
	}
}

// refuse refuses those who wait for what will never be.
func (w *worker) refuse() {
	lost := queue.Lost(w.Jobs) // who is lost by one that is refused here isn't yet
	for _, j := range w.Jobs {
		waits := j.State == api.Waits || j.State == api.Holds
		if waits && (slices.Contains(lost, j.ID) || !match.Could(w.Graph, j.Spec)) {
			w.happens(j.ID, api.DoRefuse, w.Now)
		}
	}
}

// begin lets those begin of whom the policy says so.
func (w *worker) begin() {
	begins, _, _ := pick.Pick(w.Graph, usable(w.Inst), w.Table, w.ready(), w.Now, w.Until, w.Policy, w.Depth)
	for _, h := range begins {
		w.happens(h.ID, api.DoStart, w.Now)
		w.Table, _ = held.Add(w.Table, h)
	}
}

// ready are those who are ready, as they stand.
func (w *worker) ready() []api.Want {
	var list []api.Want
	for _, id := range queue.Ready(w.Jobs) {
		j, _ := queue.Get(w.Jobs, id)
		list = append(list, api.Want{ID: id, Spec: j.Spec})
	}
	return list
}

// happens lets something happen to a job at a time; what it held is dropped, if it has ended.
func (w *worker) happens(id, what int, at int64) api.Errno {
	jobs, e := queue.Do(w.Jobs, id, what, at)
	if e != api.OK {
		return e
	}
	w.Jobs = jobs
	if j, _ := queue.Get(jobs, id); job.Over(j.State) {
		w.drop(id)
	}
	return api.OK
}

// drop drops the holding of that number, if there is one.
func (w *worker) drop(id int) {
	if rest, _, e := held.Drop(w.Table, id); e == api.OK {
		w.Table = rest
	}
}
