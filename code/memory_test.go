package code_test

import (
	"bytes"
	"slices"
	"testing"

	"bailiwick/api"
	"bailiwick/code"
)

// roomy is b with spare room behind it, and that room.
func roomy(b []byte) (list, room []byte) {
	room = cat(b, bytes.Repeat([]byte{7}, 40))
	return room[:len(b)], room
}

// spoil overwrites b, its spare room too.
func spoil(b []byte) {
	b = b[:cap(b)]
	for i := range b {
		b[i] = 99
	}
}

// Rule 3: what is handed in stays, its spare room too, and an answer is new memory.
func TestSetMemory(t *testing.T) {
	room := append([]int{0, 1, 2, 3, 7}, -7, -7, -7)
	b, e := code.Set(room[:5])
	spoil(b)
	if e != api.OK || !slices.Equal(room, []int{0, 1, 2, 3, 7, -7, -7, -7}) {
		t.Error(room, e)
	}
}

// Rule 3: of what is read too; and bytes behind the end of what is handed in aren't read.
func TestReadMemory(t *testing.T) {
	for _, sample := range append(samples(), []byte{}, []byte{9}, []byte{1}, []byte{2, 1, 0x80, 2, 0}, []byte{3, 1, 2}) {
		for cut := range len(sample) + 1 {
			b, room := roomy(sample[:cut])
			kept := bytes.Clone(room)
			check(t, b)
			if l, _ := code.ReadSet(b); len(l) > 0 {
				clear(l[:cap(l)])
			}
			for _, p := range parts(b) {
				spoil(p)
			}
			if !bytes.Equal(room, kept) {
				t.Fatalf("%v is changed", sample[:cut])
			}
		}
	}
}

func parts(b []byte) [][]byte {
	p, _ := code.ReadList(b)
	return p
}

// Rule 3: no two parts that are read share memory, their spare room neither.
func TestReadListMemory(t *testing.T) {
	one, two := specBytes(good()), setBytes([]int{0, 1, 2, 3, 7})
	whole := [][]byte{one, two, two, {2, 0}, one}
	for i := range whole {
		got := parts(listBytes(whole...))
		spoil(got[i])
		for k, p := range got {
			if k != i && !bytes.Equal(p, whole[k]) {
				t.Errorf("part %d shows in part %d", i, k)
			}
		}
	}
}

// Rule 3: the parts that are handed in stay, and what is answered is none of them, not of a single one either.
func TestListMemory(t *testing.T) {
	one, oneRoom := roomy(specBytes(good()))
	two, twoRoom := roomy(setBytes([]int{0, 1, 2, 3, 7}))
	keptOne, keptTwo := bytes.Clone(oneRoom), bytes.Clone(twoRoom)
	for _, list := range [][][]byte{{one}, {two}, {one, two}, {two, two}, {one, two, one}, {two, {9}}, {{9}, two}, {nil}} {
		whole := append(slices.Clone(list), nil, nil)
		b, e := code.List(whole[:len(list)])
		spoil(b)
		if !bytes.Equal(oneRoom, keptOne) || !bytes.Equal(twoRoom, keptTwo) || !slices.EqualFunc(whole[:len(list)], list, bytes.Equal) || whole[len(list)] != nil {
			t.Fatalf("%v, %v: what is handed in is changed", list, e)
		}
	}
}

// Rule 4: what is answered hangs on the arguments alone: twice the same, whatever was done in between, and an answer that is spoilt spoils no other.
func TestTwice(t *testing.T) {
	for _, b := range samples() {
		first, e := code.ReadList(listBytes(b))
		want, f := code.ReadList(listBytes(b))
		for _, p := range first {
			spoil(p)
		}
		if e != f || len(first) != len(want) {
			t.Fatal(first, want, e, f)
		}
		for _, p := range want {
			if !bytes.Equal(p, b) {
				t.Errorf("%v is read as %v", b, p)
			}
		}
	}
}
