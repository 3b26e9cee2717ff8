package slot_test

import (
	"slices"
	"testing"

	"bailiwick/api"
	"bailiwick/slot"
)

// given is all that is handed in, with spare room behind each list; what is in that room is kept beside it.
type given struct {
	g      []api.Thing
	use    []int
	l      []api.Held
	list   []api.Want
	things []int // of all holdings
}

// roomy is a right table of site's things, and those who would begin: two of them at once.
func roomy() given {
	// One piece of memory for all: what is answered of two holdings shares none.
	things := []int{2, 3, 5, 77, 77}
	one := api.Spec{Nodes: 1, Cores: 1, Long: 3}
	return given{
		g:      append(site(), api.Thing{Kind: 9, Up: 9, Tag: "spare"}, api.Thing{Kind: 8, Up: 8}),
		use:    append(span(0, 6), 66, 66),
		l:      []api.Held{hold(1, 0, 5, things[:2]...), hold(2, 5, 9, things[:1]...), hold(3, 6, 9, things[1:3]...), hold(99, 50, 60, 200), hold(98, 50, 60, 201)},
		list:   []api.Want{{ID: 8, Spec: one}, {ID: 4, Spec: one}, {ID: 1}, {ID: 55, Spec: one}},
		things: things,
	}
}

// kept is a copy of all that.
func (x given) kept() given {
	return given{slices.Clone(x.g), slices.Clone(x.use), deep(x.l), slices.Clone(x.list), slices.Clone(x.things)}
}

// same says whether both are the same, spare room and all.
func (x given) same(o given) bool {
	return slices.Equal(x.g, o.g) && slices.Equal(x.use, o.use) && equal(x.l, o.l) && slices.Equal(x.list, o.list) && slices.Equal(x.things, o.things)
}

// spoil overwrites an answered table, its spare room too, one holding behind the other, and says whether one shows in another.
func spoil(l []api.Held) bool {
	kept := deep(l)
	for k := range l {
		if !equal(l[k:k+1], kept[k:k+1]) {
			return true
		}
		room := l[k].Things[:cap(l[k].Things)]
		for n := range room {
			room[n] = -99
		}
	}
	l = l[:cap(l)]
	for k := range l {
		l[k] = hold(-99, -99, -99, -99)
	}
	return false
}

// Rule 3: what is handed in stays, its spare room too, and what is answered is new memory, of a plan beside an error as well.
func TestNewMemory(t *testing.T) {
	for name, try := range map[string]func(x given) ([]api.Held, api.Errno){
		"At": func(x given) ([]api.Held, api.Errno) {
			things, ok := slot.At(x.g[:7], x.use[:7], x.l[:3], x.list[0].Spec, 9, 99)
			if !ok {
				return nil, api.ErrNone
			}
			return []api.Held{hold(0, 0, 0, things...)}, api.OK
		},
		"First": func(x given) ([]api.Held, api.Errno) {
			_, things, ok := slot.First(x.g[:7], x.use[:7], x.l[:3], x.list[0].Spec, 0, 99)
			if !ok {
				return nil, api.ErrNone
			}
			return []api.Held{hold(0, 0, 0, things...)}, api.OK
		},
		"Plan": func(x given) ([]api.Held, api.Errno) {
			return slot.Plan(x.g[:7], x.use[:7], x.l[:3], x.list[:3], 0, 99)
		},
		"Plan of nobody": func(x given) ([]api.Held, api.Errno) {
			return slot.Plan(x.g[:7], x.use[:7], x.l[:3], x.list[:0], 0, 99)
		},
		"Plan of who is passed by": func(x given) ([]api.Held, api.Errno) {
			return slot.Plan(x.g[:7], x.use[:7], x.l[:3], x.list[2:3], 0, 99)
		},
	} {
		x := roomy()
		kept := x.kept()
		answer, e := try(x)
		if e != api.OK || len(answer) == 0 || spoil(answer) {
			t.Errorf("%s: %v, or two lists share memory", name, e)
		}
		if !x.same(kept) {
			t.Errorf("%s: what is handed in is changed", name)
		}
	}
}

// Rule 3: the same of a plan beside an error.
func TestNewMemoryBesideError(t *testing.T) {
	for _, c := range []struct {
		id, first int
		e         api.Errno
	}{{2, 2, api.ErrTwice}, {8, 2, api.ErrTwice}, {4, 3, api.ErrArg}, {4, 1, api.ErrArg}} {
		x := roomy()
		x.list[1].ID = c.id
		x.l[1].ID = c.first
		kept := x.kept()
		answer, e := slot.Plan(x.g[:7], x.use[:7], x.l[:3], x.list[:2], 0, 99)
		if e != c.e || !equal(answer, kept.l[:3]) || spoil(answer) {
			t.Errorf("beside %v (%v), or two lists share memory", c.e, e)
		}
		if !x.same(kept) {
			t.Errorf("beside %v: what is handed in is changed", c.e)
		}
	}
	x := roomy()
	x.l = append(row(256), x.l[3:]...)
	x.list[1].ID = 77
	kept := x.kept()
	if answer, e := slot.Plan(x.g[:7], x.use[:7], x.l[:256], x.list[1:2], 0, api.Never); e != api.ErrFull || !equal(answer, kept.l[:256]) || spoil(answer) || !x.same(kept) {
		t.Error("beside", e)
	}
}
