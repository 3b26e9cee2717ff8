package inst_test

import (
	"cmp"
	"maps"
	"slices"

	"bailiwick/api"
	"bailiwick/health"
	"bailiwick/held"
	"bailiwick/inst"
	"bailiwick/match"
	"bailiwick/pick"
	"bailiwick/queue"
	"bailiwick/set"
)

// deep is a copy of a scheduler.
func deep(i api.Inst) api.Inst {
	i.Graph, i.Health, i.Lease = slices.Clone(i.Graph), slices.Clone(i.Health), slices.Clone(i.Lease)
	var jobs []api.Job
	for _, j := range i.Jobs {
		j.Needs = slices.Clone(j.Needs)
		jobs = append(jobs, j)
	}
	var table []api.Held
	for _, h := range i.Table {
		h.Things = slices.Clone(h.Things)
		table = append(table, h)
	}
	i.Jobs, i.Table = jobs, table
	return i
}

// sameJob says whether two jobs are told alike.
func sameJob(a, b api.Job) bool {
	return a.ID == b.ID && a.Spec == b.Spec && slices.Equal(a.Needs, b.Needs) && a.State == b.State && a.Came == b.Came && a.From == b.From && a.To == b.To
}

// sameHeld says whether two holdings are told alike.
func sameHeld(a, b api.Held) bool {
	return a.ID == b.ID && slices.Equal(a.Things, b.Things) && a.From == b.From && a.To == b.To
}

// equal says whether two schedulers are told alike.
func equal(a, b api.Inst) bool {
	return slices.Equal(a.Graph, b.Graph) && slices.Equal(a.Health, b.Health) && slices.Equal(a.Lease, b.Lease) && a.Until == b.Until && a.Now == b.Now &&
		slices.EqualFunc(a.Jobs, b.Jobs, sameJob) && slices.EqualFunc(a.Table, b.Table, sameHeld) && a.Policy == b.Policy && a.Depth == b.Depth
}

// right says whether a scheduler is one, in the document's words.
func right(i api.Inst) bool {
	of := func(l []int) bool {
		return set.Right(l) && !slices.ContainsFunc(l, func(n int) bool { return n >= len(i.Graph) })
	}
	time := func(t int64) bool { return t >= 0 && t <= api.Never }
	if !health.Right(i.Graph, i.Health) || !of(i.Lease) || !time(i.Until) || !time(i.Now) || !queue.Right(i.Jobs) || !held.Right(i.Table) {
		return false
	}
	if i.Policy != 1 && i.Policy != 2 && i.Policy != 3 || i.Depth < 0 || i.Depth > 64 {
		return false
	}
	runs := map[int]api.Job{}
	for _, j := range i.Jobs {
		if j.Came > i.Now || j.From > i.Now {
			return false
		}
		if j.State == api.Runs {
			runs[j.ID] = j
		}
	}
	for _, h := range i.Table {
		j, ok := runs[h.ID]
		if !ok || h.From != j.From || h.To != min(j.From+j.Spec.Long, api.Never) || h.To <= i.Now || !of(h.Things) {
			return false
		}
	}
	return len(i.Table) == len(runs)
}

// clerk is a scheduler that is right, told anew: jobs and holdings by their numbers, and of each thing whether it is had.
type clerk struct {
	at   api.Inst // its Graph, Health, Until, Now, Policy and Depth count
	had  map[int]int
	jobs map[int]api.Job
	held map[int]api.Held
}

// clerkOf is the clerk of a scheduler.
func clerkOf(i api.Inst) *clerk {
	c := &clerk{at: deep(i), jobs: map[int]api.Job{}, held: map[int]api.Held{}}
	c.lease(i.Lease)
	for _, j := range c.at.Jobs {
		c.jobs[j.ID] = j
	}
	for _, h := range c.at.Table {
		c.held[h.ID] = h
	}
	return c
}

// lease lets these things be had, and no others.
func (c *clerk) lease(l []int) {
	c.had = map[int]int{}
	for _, n := range l {
		c.had[n]++
	}
}

// inst is the clerk's scheduler.
func (c *clerk) inst() api.Inst {
	out := deep(c.at)
	out.Lease, out.Jobs, out.Table = slices.Sorted(maps.Keys(c.had)), nil, nil
	for _, id := range c.ids() {
		out.Jobs = append(out.Jobs, c.jobs[id])
		if h, ok := c.held[id]; ok {
			out.Table = append(out.Table, h)
		}
	}
	return deep(out)
}

// ids are the jobs' numbers, rising.
func (c *clerk) ids() []int { return slices.Sorted(maps.Keys(c.jobs)) }

// bad is how bad a thing is, by all that it is part of.
func (c *clerk) bad(n int) int {
	worst := 0
	for n >= 0 {
		worst = max(worst, c.at.Health[n])
		n = c.at.Graph[n].Up
	}
	return worst
}

// good are the things that are had, and are no worse than that.
func (c *clerk) good(worst int) []int {
	var l []int
	for n := range c.at.Graph {
		if c.had[n] > 0 && c.bad(n) <= worst {
			l = append(l, n)
		}
	}
	return l
}

// ends lets a job come to an end at a time.
func (c *clerk) ends(id, state int, at int64) {
	j := c.jobs[id]
	j.State, j.To = state, at
	c.jobs[id] = j
	delete(c.held, id)
}

// lost says of a job that waits or is held whether one that it needs fails, or needs one that does.
func (c *clerk) lost(id int) bool {
	return slices.ContainsFunc(c.jobs[id].Needs, func(n int) bool {
		switch c.jobs[n].State {
		case 4, 5, 6:
			return true
		case 0, 1:
			return c.lost(n)
		}
		return false
	})
}

// ready are those who may begin, the most urgent first.
func (c *clerk) ready() []api.Want {
	var list []api.Want
	for _, id := range c.ids() {
		j := c.jobs[id]
		if j.State == 0 && !slices.ContainsFunc(j.Needs, func(n int) bool { return c.jobs[n].State != 3 }) {
			list = append(list, api.Want{ID: id, Spec: j.Spec})
		}
	}
	slices.SortStableFunc(list, func(a, b api.Want) int { return cmp.Compare(b.Spec.Prio, a.Spec.Prio) })
	return list
}

// look lets it look round, as the document tells it.
func (c *clerk) look() {
	works := c.good(1)
	for _, id := range c.ids() {
		if h, runs := c.held[id]; runs && slices.ContainsFunc(h.Things, func(n int) bool { return !slices.Contains(works, n) }) {
			c.ends(id, 4, c.at.Now)
		}
	}
	var never []int
	for _, id := range c.ids() {
		j := c.jobs[id]
		if (j.State == 0 || j.State == 1) && (c.lost(id) || !match.Could(c.at.Graph, j.Spec)) {
			never = append(never, id)
		}
	}
	for _, id := range never {
		c.ends(id, 6, c.at.Now)
	}
	begin, _, _ := pick.Pick(c.at.Graph, c.good(0), c.inst().Table, c.ready(), c.at.Now, c.at.Until, c.at.Policy, c.at.Depth)
	for _, h := range begin {
		j := c.jobs[h.ID]
		j.State, j.From = 2, c.at.Now
		c.jobs[h.ID], c.held[h.ID] = j, h
	}
}

// submit is one job more.
func (c *clerk) submit(s api.Spec, needs []int) (int, api.Errno) {
	_, id, e := queue.Add(c.inst().Jobs, s, needs, c.at.Now)
	if e == api.OK {
		c.jobs[id] = api.Job{ID: id, Spec: s, Needs: slices.Clone(needs), Came: c.at.Now}
	}
	return id, e
}

// do is what happens to a job.
func (c *clerk) do(id, what int) api.Errno {
	if what != 1 && what != 2 && what != 4 && what != 6 {
		return api.ErrArg
	}
	j, ok := c.jobs[id]
	if !ok {
		return api.ErrNone
	}
	switch {
	case what == 1 && j.State == 0:
		j.State = 1
		c.jobs[id] = j
	case what == 2 && j.State == 1:
		j.State = 0
		c.jobs[id] = j
	case what == 4 && j.State == 2:
		c.ends(id, 3, c.at.Now)
	case what == 6 && j.State <= 2:
		c.ends(id, 5, c.at.Now)
	default:
		return api.ErrState
	}
	return api.OK
}

// tick is another time.
func (c *clerk) tick(now int64) api.Errno {
	if now < c.at.Now || now > api.Never {
		return api.ErrArg
	}
	c.at.Now = now
	for id, h := range c.held {
		if h.To <= now {
			c.ends(id, 4, h.To)
		}
	}
	return api.OK
}

// lend is another lease.
func (c *clerk) lend(l []int, until int64) api.Errno {
	if until < 0 || until > api.Never || !set.Right(l) || len(l) > 0 && l[len(l)-1] >= len(c.at.Graph) {
		return api.ErrArg
	}
	c.lease(l)
	c.at.Until = until
	return api.OK
}

// mark is how a thing is.
func (c *clerk) mark(n, how int) api.Errno {
	switch {
	case how < 0 || how > 2:
		return api.ErrArg
	case n < 0 || n >= len(c.at.Graph):
		return api.ErrNone
	}
	c.at.Health[n] = how
	return api.OK
}

// told is the scheduler behind an op, the number, and the error, as the document tells it.
func told(i api.Inst, op api.Op) (api.Inst, int, api.Errno) {
	if !right(i) {
		return deep(i), 0, api.ErrArg
	}
	c, id, e := clerkOf(i), 0, api.OK
	switch op.Kind {
	case api.OpSubmit:
		id, e = c.submit(op.Spec, op.Needs)
	case api.OpDo:
		e = c.do(op.ID, op.What)
	case api.OpTick:
		e = c.tick(op.At)
	case api.OpLend:
		e = c.lend(op.Set, op.At)
	case api.OpMark:
		e = c.mark(op.ID, op.What)
	}
	if e != api.OK {
		return deep(i), 0, e
	}
	c.look()
	return c.inst(), id, e
}

// done is what the layer answers to an op.
func done(i api.Inst, op api.Op) (api.Inst, int, api.Errno) {
	out, id, e := i, 0, api.OK
	switch op.Kind {
	case api.OpSubmit:
		return inst.Submit(i, op.Spec, op.Needs)
	case api.OpDo:
		out, e = inst.Do(i, op.ID, op.What)
	case api.OpTick:
		out, e = inst.Tick(i, op.At)
	case api.OpLend:
		out, e = inst.Lend(i, op.Set, op.At)
	case api.OpMark:
		out, e = inst.Mark(i, op.ID, op.What)
	}
	return out, id, e
}

// free is what nobody holds, in the document's words.
func free(i api.Inst) []int {
	if !right(i) {
		return nil
	}
	return slices.DeleteFunc(clerkOf(i).good(0), func(n int) bool {
		return slices.ContainsFunc(i.Table, func(h api.Held) bool { return slices.Contains(h.Things, n) })
	})
}

// The ops, each as short as can be.

func submit(s api.Spec, needs ...int) api.Op {
	return api.Op{Kind: api.OpSubmit, Spec: s, Needs: needs}
}

func do(id, what int) api.Op { return api.Op{Kind: api.OpDo, ID: id, What: what} }

func tick(now int64) api.Op { return api.Op{Kind: api.OpTick, At: now} }

func lend(until int64, things ...int) api.Op {
	return api.Op{Kind: api.OpLend, At: until, Set: things}
}

func mark(n, how int) api.Op { return api.Op{Kind: api.OpMark, ID: n, What: how} }

// cores asks for so many cores of a node for so long.
func cores(many int, long int64) api.Spec { return api.Spec{Nodes: 1, Cores: many, Long: long} }

// site is a node of two cores, and in a rack one of a core and a gpu.
func site() []api.Thing {
	return []api.Thing{
		{Kind: api.Cluster, Up: -1},
		{Kind: api.Node, Tag: "a"},
		{Kind: api.Core, Up: 1},
		{Kind: api.Core, Up: 1},
		{Kind: api.Rack},
		{Kind: api.Node, Up: 4},
		{Kind: api.Core, Up: 5},
		{Kind: api.Gpu, Up: 5},
	}
}

// farm is a graph of as many things as there may be: racks of nodes of 1 to 9 cores and gpus, of which each second has a tag.
func farm() []api.Thing {
	g := []api.Thing{{Kind: api.Cluster, Up: -1}}
	rack := 0
	for len(g) < api.MaxThings {
		node := len(g)
		if node%3 == 0 {
			rack = node
			g = append(g, api.Thing{Kind: api.Rack})
			continue
		}
		x := api.Thing{Kind: api.Node, Up: rack}
		if node%2 == 1 {
			x.Tag = "b"
		}
		g = append(g, x)
		for k := range node*7%9 + 1 {
			if len(g) < api.MaxThings {
				g = append(g, api.Thing{Kind: api.Core + k*node%2, Up: node})
			}
		}
	}
	return g
}

// span is all from first up to last.
func span(first, last int) []int {
	var l []int
	for n := first; n <= last; n++ {
		l = append(l, n)
	}
	return l
}

// dice answers numbers below n, other ones each time, and of one seed always the same.
func dice(seed int) func(n int) int {
	next := uint32(seed)*2654435761 + 12345
	return func(n int) int {
		next = next*1664525 + 1013904223
		return int(next>>8) % n
	}
}
