package held_test

import (
	"slices"
	"testing"

	"bailiwick/api"
	"bailiwick/held"
)

// roomy is few with spare room behind the list, and behind each list of things; all of it is in whole and things.
func roomy() (l, whole []api.Held, things []int) {
	// One piece of memory for all: what is answered of two holdings shares none.
	things = []int{0, 1, 2, 3, 255, 77, 77, 77}
	whole = []api.Held{
		hold(1, 0, 5, things[:4]...), hold(2, 5, 9, things[:4]...), hold(4, 9, 12, things[1:3]...), hold(7, 9, 20, things[3:5]...),
		hold(99, 50, 60, 200), hold(98, 50, 60, 201), hold(97, 50, 60, 202),
	}
	return whole[:4], whole, things
}

// spoil overwrites lists, their spare room too, one holding behind the other, and says whether one shows in another.
func spoil(lists ...[]api.Held) bool {
	all := slices.Concat(lists...)
	kept := deep(all)
	for i, h := range all {
		if !alike(h, kept[i]) {
			return true
		}
		room := h.Things[:cap(h.Things)]
		for k := range room {
			room[k] = -99
		}
	}
	for _, l := range lists {
		l = l[:cap(l)]
		for k := range l {
			for n := range l[k].Things {
				l[k].Things[n] = -98
			}
			l[k] = hold(-99, -99, -99, -99)
		}
	}
	return false
}

// Rule 3: what is handed in stays, its spare room too; an answer is new memory, beside an error as well, and no two lists of one share any.
func TestNewMemory(t *testing.T) {
	for name, try := range map[string]func(l []api.Held) [][]api.Held{
		"Right": func(l []api.Held) [][]api.Held { held.Right(l); return nil },
		"Busy":  func(l []api.Held) [][]api.Held { clear(held.Busy(l, 0, 9)); return nil },
		"Ends":  func(l []api.Held) [][]api.Held { clear(held.Ends(l, 0)); return nil },
		"Get": func(l []api.Held) [][]api.Held {
			h, _ := held.Get(l, 2)
			return [][]api.Held{{h}}
		},
		"Drop": func(l []api.Held) [][]api.Held {
			m, h, _ := held.Drop(l, 2)
			return [][]api.Held{m, {h}}
		},
		"Drop the last": func(l []api.Held) [][]api.Held {
			m, h, _ := held.Drop(l, 7)
			return [][]api.Held{m, {h}}
		},
		"Over": func(l []api.Held) [][]api.Held {
			rest, gone := held.Over(l, 9)
			return [][]api.Held{rest, gone}
		},
		"Over none": func(l []api.Held) [][]api.Held {
			rest, gone := held.Over(l, 0)
			return [][]api.Held{rest, gone}
		},
		"Cut": func(l []api.Held) [][]api.Held {
			m, _ := held.Cut(l, 2, 6)
			return [][]api.Held{m}
		},
		"Cut as it was": func(l []api.Held) [][]api.Held {
			m, _ := held.Cut(l, 2, 9)
			return [][]api.Held{m}
		},
	} {
		l, whole, things := roomy()
		kept, keptThings := deep(whole), slices.Clone(things)
		answers := try(l)
		if spoil(answers...) {
			t.Errorf("%s: two lists share memory", name)
		}
		if !equal(whole, kept) || !slices.Equal(things, keptThings) {
			t.Errorf("%s: what is handed in is changed", name)
		}
		if !held.Right(l) {
			t.Errorf("%s: the table isn't right", name)
		}
	}
}

// Rule 3: the same of Add, of what is added too, and of a table that isn't right.
func TestNewMemoryOfAdd(t *testing.T) {
	for _, h := range []api.Held{hold(3, 20, 30, 1), hold(9, 20, 30, 1), hold(0, 20, 30, 1), hold(3, 5, 9, 2), hold(4, 5, 9, 2), hold(3, 9, 9, 2)} {
		l, whole, things := roomy()
		mine := append(h.Things, 66, 66)
		h.Things = mine[:1]
		kept, keptThings, keptMine := deep(whole), slices.Clone(things), slices.Clone(mine)
		m, e := held.Add(l, h)
		if spoil(m) {
			t.Errorf("Add(%v), %v: two lists share memory", h, e)
		}
		if !equal(whole, kept) || !slices.Equal(things, keptThings) || !slices.Equal(mine, keptMine) {
			t.Errorf("Add(%v), %v: what is handed in is changed", h, e)
		}
	}
}

// Rule 3: a table that isn't right is answered in new memory, too.
func TestNewMemoryOfWrong(t *testing.T) {
	l, whole, things := roomy()
	whole[3].ID = 4
	kept, keptThings := deep(whole), slices.Clone(things)
	a, _ := held.Add(l, hold(20, 30, 40, 5))
	d, _, _ := held.Drop(l, 1)
	c, _ := held.Cut(l, 1, 2)
	rest, gone := held.Over(l, 9)
	if len(a) != 4 || spoil(a) || spoil(d) || spoil(c) || spoil(rest, gone) {
		t.Error("two lists share memory")
	}
	if !equal(whole, kept) || !slices.Equal(things, keptThings) {
		t.Error("what is handed in is changed")
	}
}
