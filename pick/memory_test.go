package pick_test

import (
	"slices"
	"testing"

	"bailiwick/api"
	"bailiwick/pick"
)

// given is all that is handed in, with spare room behind each list.
type given struct {
	g      []api.Thing
	use    []int
	l      []api.Held
	list   []api.Want
	things []int // of all holdings
}

// roomy is a right table of site's things, and those who would begin: of the first five two at once.
func roomy() given {
	// One piece of memory for all: what is answered of two holdings shares none.
	things := []int{2, 3, 5, 77, 77}
	one, both := api.Spec{Nodes: 1, Cores: 1, Long: 3}, api.Spec{Nodes: 2, Cores: 1, Long: 4}
	return given{
		g:      append(site(), api.Thing{Kind: 9, Up: 9, Tag: "spare"}, api.Thing{Kind: 8, Up: 8}),
		use:    append(span(0, 6), 66, 66),
		l:      []api.Held{hold(1, 0, 5, things[:1]...), hold(2, 5, 9, things[:1]...), hold(3, 6, 9, things[1:3]...), hold(99, 50, 60, 200), hold(98, 50, 60, 201)},
		list:   []api.Want{{ID: 8, Spec: one}, {ID: 4, Spec: both}, {ID: 1}, {ID: 7, Spec: one}, {ID: 5, Spec: one}, {ID: 55, Spec: one}},
		things: things,
	}
}

// kept is a copy of all that.
func (x given) kept() given {
	return given{slices.Clone(x.g), slices.Clone(x.use), deep(x.l), slices.Clone(x.list), slices.Clone(x.things)}
}

// same says whether both are the same, spare room and all.
func (x given) same(o given) bool {
	return slices.Equal(x.g, o.g) && slices.Equal(x.use, o.use) && equal(x.l, o.l) && slices.Equal(x.list, o.list) && slices.Equal(x.things, o.things)
}

// spoil overwrites two answered lists, their spare room too, one holding behind the other, and says whether one shows in another.
func spoil(lists ...[]api.Held) bool {
	for n, l := range lists {
		for k := range l {
			rest := slices.Concat(append([][]api.Held{l[k+1:]}, lists[n+1:]...)...)
			kept := deep(rest)
			room := l[k].Things[:cap(l[k].Things)]
			for n := range room {
				room[n] = -99
			}
			if !equal(rest, kept) {
				return true
			}
		}
		rest := slices.Concat(lists[n+1:]...)
		kept := deep(rest)
		l = l[:cap(l)]
		for k := range l {
			l[k] = hold(-99, -99, -99, -99)
		}
		if !equal(slices.Concat(lists[n+1:]...), kept) {
			return true
		}
	}
	return false
}

// Rule 3: what is handed in stays, its spare room too, and what is answered is new memory.
func TestNewMemory(t *testing.T) {
	for policy, many := range [][2]int{{1, 0}, {2, 1}, {2, 2}} {
		x := roomy()
		kept := x.kept()
		begin, late, e := pick.Pick(x.g[:7], x.use[:7], x.l[:3], x.list[:5], 0, 99, policy+1, 64)
		if e != api.OK || len(begin) != many[0] || len(late) != many[1] || spoil(begin, late) {
			t.Errorf("policy %d: %v, %v, %v, or two lists share memory", policy+1, begin, late, e)
		}
		if !x.same(kept) {
			t.Errorf("policy %d: what is handed in is changed", policy+1)
		}
	}
}

// Rule 3: what is handed in stays beside an error, too, and where it is asked who is made later.
func TestHandedInStays(t *testing.T) {
	for _, c := range []struct {
		id, first, policy int
		e                 api.Errno
	}{{2, 2, 2, api.ErrTwice}, {8, 2, 3, api.ErrTwice}, {4, 3, 2, api.ErrArg}, {4, 1, 1, api.ErrArg}, {4, 2, 4, api.ErrArg}} {
		x := roomy()
		x.list[3].ID = c.id
		x.l[1].ID = c.first
		kept := x.kept()
		begin, late, e := pick.Pick(x.g[:7], x.use[:7], x.l[:3], x.list[:5], 0, 99, c.policy, 2)
		if e != c.e || len(begin)+len(late) > 0 || !x.same(kept) {
			t.Errorf("beside %v: %v, %v, %v", c.e, begin, late, e)
		}
	}
	x := roomy()
	kept := x.kept()
	if !pick.Later(x.g[:7], x.use[:7], x.l[:0], x.l[:3], x.list[1].Spec, 3, 99) || !x.same(kept) {
		t.Error("what is handed in is changed, or it isn't made later")
	}
}
