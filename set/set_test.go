package set_test

import (
	"slices"
	"testing"

	"bailiwick/api"
	"bailiwick/set"
)

// wrong are lists that are no sets.
func wrong() [][]int {
	long := span(0, 255)
	return [][]int{
		{-1}, {256}, {-1, 0}, {255, 256}, {2, 2}, {0, 0}, {3, 1}, {1, 2, 2}, {5, 6, 4},
		{1 << 62}, {-1 << 63}, {64, 0}, {1<<63 - 1}, append(long, 256), append(long, 255), append(long, long...),
	}
}

// span is all from first up to last.
func span(first, last int) []int {
	var l []int
	for n := first; n <= last; n++ {
		l = append(l, n)
	}
	return l
}

// edges are numbers at the ends of the range and where a word of bits begins and ends.
func edges() []int { return []int{0, 1, 62, 63, 64, 65, 127, 128, 191, 192, 254, 255} }

// someSets are all sets of up to three of the edges, a few greater ones, and some spread by a fixed rule.
func someSets() [][]int {
	out := [][]int{nil, {}, span(0, 255), span(1, 254), span(60, 70), span(0, 63), span(64, 127), span(192, 255)}
	e := edges()
	for i := range e {
		out = append(out, []int{e[i]})
		for j := i + 1; j < len(e); j++ {
			out = append(out, []int{e[i], e[j]})
			for k := j + 1; k < len(e); k++ {
				out = append(out, []int{e[i], e[j], e[k]})
			}
		}
	}
	for step := 2; step < 40; step += 3 {
		var l []int
		for n := step % 5; n < api.MaxThings; n += step {
			l = append(l, n)
		}
		out = append(out, l)
	}
	return out
}

// pick is what of 0 to 255 keep says yes to: the plain way, to hold the program's against.
func pick(keep func(n int) bool) []int {
	var l []int
	for n := range api.MaxThings {
		if keep(n) {
			l = append(l, n)
		}
	}
	return l
}

func TestRight(t *testing.T) {
	for _, l := range someSets() {
		if !set.Right(l) {
			t.Errorf("Right(%v) is false", l)
		}
	}
	for _, l := range wrong() {
		if set.Right(l) {
			t.Errorf("Right(%v) is true", l)
		}
	}
}

func TestJoinMeetLess(t *testing.T) {
	for _, a := range someSets() {
		for _, b := range someSets() {
			inA := func(n int) bool { return slices.Contains(a, n) }
			inB := func(n int) bool { return slices.Contains(b, n) }
			if got, want := set.Join(a, b), pick(func(n int) bool { return inA(n) || inB(n) }); !slices.Equal(got, want) {
				t.Fatalf("Join(%v, %v) = %v", a, b, got)
			}
			if got, want := set.Meet(a, b), pick(func(n int) bool { return inA(n) && inB(n) }); !slices.Equal(got, want) {
				t.Fatalf("Meet(%v, %v) = %v", a, b, got)
			}
			if got, want := set.Less(a, b), pick(func(n int) bool { return inA(n) && !inB(n) }); !slices.Equal(got, want) {
				t.Fatalf("Less(%v, %v) = %v", a, b, got)
			}
		}
	}
}

func TestHas(t *testing.T) {
	for _, a := range someSets() {
		for n := -70; n < api.MaxThings+70; n++ {
			if set.Has(a, n) != slices.Contains(a, n) {
				t.Fatalf("Has(%v, %d) = %v", a, n, set.Has(a, n))
			}
		}
		for _, n := range []int{-1 << 63, 1<<63 - 1, 1 << 62, 1 << 32, -1 << 32} {
			if set.Has(a, n) {
				t.Fatalf("Has(%v, %d)", a, n)
			}
		}
	}
}

func TestPartApart(t *testing.T) {
	for _, a := range someSets() {
		for _, b := range someSets() {
			part, apart := true, true
			for _, n := range a {
				in := slices.Contains(b, n)
				part, apart = part && in, apart && !in
			}
			if set.Part(a, b) != part || set.Apart(a, b) != apart {
				t.Fatalf("%v, %v: Part %v, Apart %v", a, b, set.Part(a, b), set.Apart(a, b))
			}
		}
	}
}

// What is no set is no part, is apart from nothing, and gives nothing, on either side.
func TestNoSets(t *testing.T) {
	for _, w := range wrong() {
		for _, other := range [][]int{nil, {1, 2}, {200}, span(0, 255), w, {-1}} {
			for _, c := range [][2][]int{{w, other}, {other, w}} {
				a, b := c[0], c[1]
				if len(set.Join(a, b)) != 0 || len(set.Meet(a, b)) != 0 || len(set.Less(a, b)) != 0 {
					t.Errorf("%v, %v: Join, Meet or Less tells something", a, b)
				}
				if set.Part(a, b) || set.Apart(a, b) {
					t.Errorf("%v, %v: Part or Apart", a, b)
				}
			}
		}
		for _, n := range w {
			if set.Has(w, n) {
				t.Errorf("Has(%v, %d)", w, n)
			}
		}
		if set.Show(w) != "" {
			t.Errorf("Show(%v) = %q", w, set.Show(w))
		}
	}
}

// Join and Meet don't hang on the order, and Less of a Join is one part.
func TestHowTheyGoTogether(t *testing.T) {
	for _, a := range someSets() {
		for _, b := range someSets() {
			join := set.Join(a, b)
			if !slices.Equal(join, set.Join(b, a)) || !slices.Equal(set.Meet(a, b), set.Meet(b, a)) {
				t.Fatalf("%v, %v: Join or Meet hangs on the order", a, b)
			}
			if !slices.Equal(set.Less(join, b), set.Less(a, b)) {
				t.Fatalf("%v, %v: Less of the Join is %v", a, b, set.Less(join, b))
			}
			if set.Apart(a, b) && !slices.Equal(set.Less(join, b), a) {
				t.Fatalf("%v, %v are apart, but Less of the Join is %v", a, b, set.Less(join, b))
			}
		}
	}
}

// What is handed in stays as it is, its spare room too, and an answer shares no memory with it.
func TestMemory(t *testing.T) {
	room := func() []int { return []int{1, 2, 3, 200, 77, 78, 79} }
	for _, c := range []struct {
		name string
		call func(a, b []int) []int
	}{{"Join", set.Join}, {"Meet", set.Meet}, {"Less", set.Less}} {
		for _, other := range [][]int{nil, {1, 2}, {1, 2, 3, 200}, {0, 255}} {
			mine, yours := room(), slices.Clone(other)
			for _, got := range [][]int{c.call(mine[:4], yours), c.call(yours, mine[:4]), c.call(mine[:4], mine[:4])} {
				got = got[:cap(got)]
				for i := range got {
					got[i] = -5
				}
			}
			if !slices.Equal(mine, room()) || !slices.Equal(yours, other) {
				t.Errorf("%s: %v, %v have become %v, %v", c.name, room(), other, mine, yours)
			}
		}
	}
	mine := room()
	set.Right(mine[:4])
	set.Has(mine[:4], 2)
	set.Part(mine[:4], mine[:3])
	set.Apart(mine[:4], mine[:3])
	set.Show(mine[:4])
	if !slices.Equal(mine, room()) {
		t.Errorf("%v has become %v", room(), mine)
	}
}
