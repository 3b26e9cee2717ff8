package inst_test

import (
	"slices"
	"testing"

	"bailiwick/api"
	"bailiwick/inst"
)

// given is a scheduler with spare room behind each of its lists, and that room.
type given struct {
	i    api.Inst
	room api.Inst // the same lists with their spare room
}

// roomy is a busy scheduler with spare room behind each list; all sets of it and all needs lie in one piece of memory.
func roomy(t *testing.T) given {
	t.Helper()
	b := busy(t)
	numbers := make([]int, 0, 200)
	cut := func(l []int) []int {
		from := len(numbers)
		numbers = append(numbers, l...)
		return numbers[from:len(numbers)]
	}
	b.Health = cut(b.Health)
	b.Lease = cut(b.Lease)
	for n, j := range b.Jobs {
		b.Jobs[n].Needs = cut(j.Needs)
	}
	for n, h := range b.Table {
		b.Table[n].Things = cut(h.Things)
	}
	cut([]int{-77, -77, -77})
	x := given{i: b, room: b}
	x.room.Graph = append(slices.Clip(b.Graph), api.Thing{Kind: 9}, api.Thing{Kind: 8})
	x.room.Jobs = append(slices.Clip(b.Jobs), api.Job{ID: 77}, api.Job{ID: 78})
	x.room.Table = append(slices.Clip(b.Table), api.Held{ID: 77}, api.Held{ID: 78})
	x.room.Health = numbers // all the lists of numbers, spare room and all
	x.i.Graph, x.i.Jobs, x.i.Table = x.room.Graph[:len(b.Graph)], x.room.Jobs[:len(b.Jobs)], x.room.Table[:len(b.Table)]
	return x
}

// spoil overwrites all that a scheduler has, spare room too, one list behind the other, and says whether one shows in another.
func spoil(i api.Inst) bool {
	lists := [][]int{i.Health, i.Lease}
	for _, j := range i.Jobs {
		lists = append(lists, j.Needs)
	}
	for _, h := range i.Table {
		lists = append(lists, h.Things)
	}
	kept := make([][]int, len(lists))
	for k, l := range lists {
		kept[k] = slices.Clone(l)
	}
	for k, l := range lists {
		if !slices.Equal(l, kept[k]) {
			return true
		}
		l = l[:cap(l)]
		for n := range l {
			l[n] = -99
		}
	}
	for k := range i.Graph[:cap(i.Graph)] {
		i.Graph[:cap(i.Graph)][k] = api.Thing{Kind: -99, Up: -99, Tag: "spoilt"}
	}
	for k := range i.Jobs[:cap(i.Jobs)] {
		i.Jobs[:cap(i.Jobs)][k] = api.Job{ID: -99}
	}
	for k := range i.Table[:cap(i.Table)] {
		i.Table[:cap(i.Table)][k] = api.Held{ID: -99}
	}
	return false
}

// Rule 3: what is handed in stays, its spare room too; an answer is new memory, beside an error as well, and no two lists of one share any.
func TestNewMemory(t *testing.T) {
	needs, lease := []int{2, 4, 6, 77, 77}, append(span(0, 7), 88, 88)
	ops := []api.Op{
		{}, submit(cores(1, 2), needs[:2]...), submit(cores(9, 2), needs[:3]...), submit(api.Spec{}), submit(cores(1, 2), needs[:4]...),
		do(4, api.DoEnd), do(3, api.DoCancel), do(8, api.DoFree), do(8, api.DoStart), do(99, api.DoEnd), do(1, api.DoEnd),
		tick(3), tick(7), tick(api.Never), tick(2), lend(9, lease[:8]...), lend(9, lease[:3]...), lend(9, lease[:9]...), lend(-1, lease[:8]...),
		mark(5, api.Drain), mark(0, api.Down), mark(8, api.Down), mark(5, 3),
	}
	for k, op := range ops {
		for right := range 2 {
			x := roomy(t)
			if right == 0 {
				x.i.Until = -1
			}
			kept, keptNeeds, keptLease := deep(x.room), slices.Clone(needs), slices.Clone(lease)
			out, _, _ := done(x.i, op)
			if k == 0 {
				out = inst.Copy(x.i)
				inst.Right(x.i)
				l := inst.Free(x.i)
				clear(l[:cap(l)])
			}
			if spoil(out) {
				t.Errorf("%+v: two lists share memory", op)
			}
			if !equal(x.room, kept) || !slices.Equal(needs, keptNeeds) || !slices.Equal(lease, keptLease) {
				t.Errorf("%+v: what is handed in is changed", op)
			}
		}
	}
}

// Rule 3: a new one has memory of its own.
func TestNewOwnMemory(t *testing.T) {
	whole := append(site(), api.Thing{Kind: 9}, api.Thing{Kind: 8})
	kept := slices.Clone(whole)
	i := made(t, whole[:8], api.Easy, 1)
	inst.New(whole[:9], api.Easy, 1)
	if spoil(i) || !slices.Equal(whole, kept) {
		t.Error("what is handed in is changed, or two lists share memory")
	}
}

// Rule 3: two schedulers that come of one share nothing.
func TestTwoOfOne(t *testing.T) {
	i := busy(t)
	a, b := after(t, i, tick(4)), after(t, i, tick(4))
	kept := deep(b)
	spoil(a)
	if !equal(b, kept) || !equal(i, busy(t)) {
		t.Error("they share memory")
	}
}

// Rule 4: asked again, it answers the same.
func TestAgain(t *testing.T) {
	strewns(func(i api.Inst, op api.Op) {
		a, n, e := done(i, op)
		b, m, f := done(i, op)
		if !equal(a, b) || n != m || e != f {
			t.Fatalf("of %+v\n%+v: %+v, %d, %v, then %+v, %d, %v", i, op, a, n, e, b, m, f)
		}
	})
}
