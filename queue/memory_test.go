package queue_test

import (
	"slices"
	"testing"

	"bailiwick/api"
	"bailiwick/queue"
)

// roomy is a queue with spare room behind the list, and behind each list of needs; all of it is in whole and needs.
func roomy() (l, whole []api.Job, needs []int) {
	// One piece of memory for all: what is answered of two jobs shares none.
	needs = []int{1, 2, 3, 77, 77, 77}
	whole = []api.Job{
		in(1, api.Done, 0), in(2, api.Cancelled, 1), in(3, api.Waits, 1, needs[:1]...), in(4, api.Waits, 1, needs[:3]...), in(5, api.Holds, 1, needs[1:3]...),
		in(9, api.Waits, 50), in(8, api.Waits, 50), in(7, api.Waits, 50),
	}
	for k := range whole {
		if k < 2 || k > 4 {
			whole[k].Needs = needs[5:5]
		}
	}
	return whole[:5], whole, needs
}

// spoil overwrites a list, its spare room too, and all its jobs need, one behind the other, and says whether one shows in another.
func spoil(l []api.Job) bool {
	kept := deep(l)
	for i, j := range l {
		if !alike(j, kept[i]) {
			return true
		}
		room := j.Needs[:cap(j.Needs)]
		for k := range room {
			room[k] = -99
		}
	}
	l = l[:cap(l)]
	for k := range l {
		l[k] = in(-99, -99, -99, -99)
	}
	return false
}

// Rule 3: what is handed in stays, its spare room too; an answer is new memory, beside an error as well, and no two lists of one share any.
func TestNewMemory(t *testing.T) {
	for name, try := range map[string]func(l []api.Job) []api.Job{
		"Right":  func(l []api.Job) []api.Job { queue.Right(l); return nil },
		"Ready":  func(l []api.Job) []api.Job { clear(queue.Ready(l)); return nil },
		"Lost":   func(l []api.Job) []api.Job { clear(queue.Lost(l)); return nil },
		"Counts": func(l []api.Job) []api.Job { queue.Counts(l); return nil },
		"Get": func(l []api.Job) []api.Job {
			j, _ := queue.Get(l, 4)
			return []api.Job{j}
		},
		"Get of none": func(l []api.Job) []api.Job {
			j, _ := queue.Get(l, 44)
			return []api.Job{j}
		},
		"Do":          func(l []api.Job) []api.Job { m, _ := queue.Do(l, 4, api.DoStart, 9); return m },
		"Do not now":  func(l []api.Job) []api.Job { m, _ := queue.Do(l, 4, api.DoEnd, 9); return m },
		"Do wrong":    func(l []api.Job) []api.Job { m, _ := queue.Do(l, 4, 0, 9); return m },
		"Do to none":  func(l []api.Job) []api.Job { m, _ := queue.Do(l, 44, api.DoStart, 9); return m },
		"Add":         func(l []api.Job) []api.Job { m, _, _ := queue.Add(l, plain(), nil, 9); return m },
		"Add a wrong": func(l []api.Job) []api.Job { m, _, _ := queue.Add(l, api.Spec{}, nil, 9); return m },
		"Add early":   func(l []api.Job) []api.Job { m, _, _ := queue.Add(l, plain(), nil, 0); return m },
	} {
		l, whole, needs := roomy()
		if !queue.Right(l) || len(queue.Ready(l)) != 1 || len(queue.Lost(l)) != 2 {
			t.Fatalf("%s: nothing to be seen", name)
		}
		kept, keptNeeds := deep(whole), slices.Clone(needs)
		if spoil(try(l)) {
			t.Errorf("%s: two lists share memory", name)
		}
		if !equal(whole, kept) || !slices.Equal(needs, keptNeeds) {
			t.Errorf("%s: what is handed in is changed", name)
		}
	}
}

// Rule 3: the same of what is needed by the one that is added, beside errors as well.
func TestNewMemoryOfNeeds(t *testing.T) {
	for _, c := range []struct {
		needs []int
		e     api.Errno
	}{{[]int{1, 3}, api.OK}, {nil, api.OK}, {[]int{5}, api.OK}, {[]int{3, 1}, api.ErrArg}, {[]int{1, 6}, api.ErrNone}} {
		l, whole, needs := roomy()
		mine := append(slices.Clone(c.needs), 66, 67)
		kept, keptNeeds, keptMine := deep(whole), slices.Clone(needs), slices.Clone(mine)
		m, _, e := queue.Add(l, plain(), mine[:len(c.needs)], 9)
		if e != c.e || spoil(m) {
			t.Errorf("Add, %v, %v: two lists share memory", c.needs, e)
		}
		if !equal(whole, kept) || !slices.Equal(needs, keptNeeds) || !slices.Equal(mine, keptMine) {
			t.Errorf("Add, %v, %v: what is handed in is changed", c.needs, e)
		}
	}
}

// Rule 3: a full queue, one whose numbers are at their end, and a list that is no queue are answered in new memory, too.
func TestNewMemoryOfOthers(t *testing.T) {
	no, _, _ := roomy()
	no[4].ID = 4
	for _, l := range [][]api.Job{web(64, 3), edges(), no} {
		kept := deep(l)
		a, _, e := queue.Add(l, plain(), nil, api.Never)
		d, _ := queue.Do(l, l[0].ID, api.DoHold, 9)
		if e == api.OK || !equal(a, l) || len(d) != len(l) || spoil(a) || spoil(d) || !equal(l, kept) {
			t.Errorf("Add, %v: memory is shared", e)
		}
	}
}

// Rule 3: nothing is kept: what is done with a queue doesn't show in what is done with it again.
func TestNothingIsKept(t *testing.T) {
	l, _, _ := roomy()
	for range 3 {
		m, id, e := queue.Add(l, plain(), []int{1}, 9)
		if e != api.OK || id != 6 || len(m) != 6 {
			t.Error(id, e)
		}
		spoil(m)
		if r, s := queue.Ready(l), queue.Lost(l); !slices.Equal(r, []int{3}) || !slices.Equal(s, []int{4, 5}) {
			t.Error(r, s)
		}
	}
}
