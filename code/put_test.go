package code_test

import (
	"bytes"
	"math"
	"slices"
	"strings"
	"testing"

	"bailiwick/api"
	"bailiwick/code"
	"bailiwick/set"
	"bailiwick/spec"
)

// good is a spec that may be, and full one of which every field is as great as it may be.
func good() api.Spec {
	return api.Spec{Nodes: 2, Cores: 3, Gpus: 1, Tag: "fast", Whole: true, Long: 300, Prio: -2}
}
func full() api.Spec {
	return api.Spec{Nodes: 64, Cores: 64, Gpus: 64, Tag: "0123456789abcxyz", Whole: true, Long: 1 << 40, Prio: 1000}
}

// specs are many that may be.
func specs() []api.Spec {
	out := []api.Spec{good(), full(), {Nodes: 1, Whole: true, Long: 1}, {Nodes: 1, Cores: 1, Long: 1}, {Nodes: 1, Gpus: 1, Long: 1}}
	for i, tag := range []string{"", "a", "fast", "0123456789abcxyz", "zzzzzzzzzzzzzzzz"} {
		for _, nodes := range []int{1, 2, 63, 64} {
			for _, whole := range []bool{false, true} {
				for _, long := range []int64{1, 2, 127, 128, 129, 255, 256, 16383, 16384, 1 << 21, 1<<28 - 1, 1 << 35, 1<<40 - 1, 1 << 40} {
					for _, prio := range []int{-1000, -129, -128, -65, -64, -63, -1, 0, 1, 63, 64, 65, 127, 128, 1000} {
						out = append(out, api.Spec{Nodes: nodes, Cores: 1 + 12*i, Gpus: 64 - 16*i, Tag: tag, Whole: whole, Long: long, Prio: prio})
					}
				}
			}
		}
	}
	return out
}

// wrong are specs that may not be; their numbers are such as can be put.
func wrong() []api.Spec {
	var out []api.Spec
	for _, change := range []func(*api.Spec){
		func(s *api.Spec) { s.Nodes = 0 },
		func(s *api.Spec) { s.Nodes = 65 },
		func(s *api.Spec) { s.Nodes = 1 << 62 },
		func(s *api.Spec) { s.Nodes = 1<<32 + 1 },
		func(s *api.Spec) { s.Cores = 65 },
		func(s *api.Spec) { s.Cores = 1 << 62 },
		func(s *api.Spec) { s.Gpus = 65 },
		func(s *api.Spec) { s.Gpus = 1 << 32 },
		func(s *api.Spec) { s.Cores, s.Gpus, s.Whole = 0, 0, false },
		func(s *api.Spec) { s.Tag = "Fast" },
		func(s *api.Spec) { s.Tag = "fast\x00" },
		func(s *api.Spec) { s.Tag = "\xff\x80" },
		func(s *api.Spec) { s.Tag = "é" },
		func(s *api.Spec) { s.Tag = "0123456789abcxy " },
		func(s *api.Spec) { s.Long = 0 },
		func(s *api.Spec) { s.Long = 1<<40 + 1 },
		func(s *api.Spec) { s.Long = 1 << 62 },
		func(s *api.Spec) { s.Prio = 1001 },
		func(s *api.Spec) { s.Prio = -1001 },
		func(s *api.Spec) { s.Prio = 1 << 61 },
		func(s *api.Spec) { s.Prio = -1 << 61 },
	} {
		for _, s := range []api.Spec{good(), full(), {Nodes: 1, Cores: 1, Long: 1}} {
			change(&s)
			out = append(out, s)
		}
	}
	return out
}

// span is first to last.
func span(first, last int) []int {
	var l []int
	for n := first; n <= last; n++ {
		l = append(l, n)
	}
	return l
}

// steps are every so many numbers, from first on.
func steps(first, by int) []int {
	var l []int
	for n := first; n < 256; n += by {
		l = append(l, n)
	}
	return l
}

// sets are many: of two runs all pairs of some, and others.
func sets() [][]int {
	out := [][]int{
		nil, {}, {0}, {255}, {0, 255}, {0, 1, 2, 3, 7}, {254, 255}, span(0, 255), span(1, 254), span(0, 127), span(0, 128), span(128, 255),
		steps(0, 2), steps(1, 2), steps(0, 3), steps(5, 7), steps(3, 100), append(span(0, 253), 255), append([]int{0}, span(2, 255)...),
	}
	ends := []int{0, 1, 2, 3, 62, 126, 127, 128, 129, 130, 200, 252, 253, 254, 255}
	for i, a := range ends {
		for j, b := range ends[i:] {
			for k, c := range ends[i+j:] {
				for _, d := range ends[i+j+k:] {
					if c > b {
						out = append(out, append(span(a, b), span(c, d)...))
					}
				}
			}
		}
	}
	return out
}

// P8.1: the bytes of specs, one by one.
func TestSpec(t *testing.T) {
	for i, c := range []struct {
		s    api.Spec
		want []byte
	}{
		{api.Spec{Nodes: 2, Cores: 3, Tag: "a", Whole: true, Long: 300, Prio: -2}, []byte{1, 2, 3, 0, 1, 'a', 1, 0xac, 2, 3}},
		{api.Spec{Nodes: 1, Whole: true, Long: 1}, []byte{1, 1, 0, 0, 0, 1, 1, 0}},
		{api.Spec{Nodes: 64, Gpus: 64, Long: 127, Prio: 1}, []byte{1, 64, 0, 64, 0, 0, 127, 2}},
		{api.Spec{Nodes: 5, Cores: 6, Gpus: 7, Long: 128, Prio: -1}, []byte{1, 5, 6, 7, 0, 0, 0x80, 1, 1}},
		{api.Spec{Nodes: 1, Cores: 64, Tag: "z9", Long: 16383, Prio: 63}, []byte{1, 1, 64, 0, 2, 'z', '9', 0, 0xff, 0x7f, 126}},
		{api.Spec{Nodes: 1, Cores: 1, Long: 16384, Prio: 64}, []byte{1, 1, 1, 0, 0, 0, 0x80, 0x80, 1, 0x80, 1}},
		{api.Spec{Nodes: 1, Cores: 1, Long: 1, Prio: -64}, []byte{1, 1, 1, 0, 0, 0, 1, 127}},
		{api.Spec{Nodes: 1, Cores: 1, Long: 1, Prio: -65}, []byte{1, 1, 1, 0, 0, 0, 1, 0x81, 1}},
		{api.Spec{Nodes: 1, Cores: 1, Long: 1, Prio: -1000}, []byte{1, 1, 1, 0, 0, 0, 1, 0xcf, 0x0f}},
		{full(), append(append([]byte{1, 64, 64, 64, 16}, "0123456789abcxyz"...), 1, 0x80, 0x80, 0x80, 0x80, 0x80, 0x20, 0xd0, 0x0f)},
	} {
		if b, e := code.Spec(c.s); e != api.OK || !bytes.Equal(b, c.want) {
			t.Errorf("%d: %v, %v", i, b, e)
		}
	}
	for _, s := range specs() {
		if b, e := code.Spec(s); e != api.OK || !bytes.Equal(b, specBytes(s)) {
			t.Fatalf("Spec(%+v) = %v, %v", s, b, e)
		}
	}
}

// P8.1: nothing and ErrArg of a spec that may not be.
func TestSpecOfNone(t *testing.T) {
	all := append(wrong(), api.Spec{}, api.Spec{Nodes: 1, Long: 1})
	for _, n := range []int{-1, -64, math.MinInt, math.MaxInt} {
		a, b, c, d := good(), good(), good(), good()
		a.Nodes, b.Cores, c.Gpus, d.Long = n, n, n, int64(n)
		all = append(all, a, b, c, d)
	}
	for _, prio := range []int{math.MinInt, math.MaxInt} {
		s := good()
		s.Prio = prio
		all = append(all, s)
	}
	for _, tag := range []string{"0123456789abcxyz0", strings.Repeat("a", 128), strings.Repeat("a", 256), "a b", "-"} {
		s := good()
		s.Tag = tag
		all = append(all, s)
	}
	for _, s := range all {
		if b, e := code.Spec(s); e != api.ErrArg || len(b) != 0 {
			t.Errorf("Spec(%+v) = %v, %v", s, b, e)
		}
	}
}

// P8.1: the bytes of sets, one by one.
func TestSet(t *testing.T) {
	for i, c := range []struct {
		l    []int
		want []byte
	}{
		{nil, []byte{2, 0}},
		{[]int{}, []byte{2, 0}},
		{[]int{0}, []byte{2, 1, 0, 0}},
		{[]int{0, 1, 2, 3, 7}, []byte{2, 2, 0, 3, 4, 0}},
		{[]int{127}, []byte{2, 1, 127, 0}},
		{[]int{128}, []byte{2, 1, 0x80, 1, 0}},
		{[]int{255}, []byte{2, 1, 0xff, 1, 0}},
		{[]int{254, 255}, []byte{2, 1, 0xfe, 1, 1}},
		{[]int{0, 2, 4}, []byte{2, 3, 0, 0, 2, 0, 2, 0}},
		{[]int{1, 2, 4, 5, 7}, []byte{2, 3, 1, 1, 2, 1, 2, 0}},
		{[]int{0, 128, 255}, []byte{2, 3, 0, 0, 0x80, 1, 0, 127, 0}},
		{span(0, 127), []byte{2, 1, 0, 127}},
		{span(0, 128), []byte{2, 1, 0, 0x80, 1}},
		{span(0, 255), []byte{2, 1, 0, 0xff, 1}},
		{append(span(0, 253), 255), []byte{2, 2, 0, 0xfd, 1, 2, 0}},
		{steps(0, 2), append([]byte{2, 0x80, 1, 0, 0}, bytes.Repeat([]byte{2, 0}, 127)...)},
		{steps(3, 2), append([]byte{2, 127, 3, 0}, bytes.Repeat([]byte{2, 0}, 126)...)},
	} {
		if b, e := code.Set(c.l); e != api.OK || !bytes.Equal(b, c.want) {
			t.Errorf("%d: %v, %v", i, b, e)
		}
	}
	for _, l := range sets() {
		if b, e := code.Set(l); e != api.OK || !bytes.Equal(b, setBytes(l)) {
			t.Fatalf("Set(%v) = %v, %v", l, b, e)
		}
	}
}

// P8.1: nothing and ErrArg of a list that is no set.
func TestSetOfNone(t *testing.T) {
	for _, l := range [][]int{
		{-1}, {256}, {1, 0}, {1, 1}, {0, 1, 1, 2}, {0, 2, 1}, {-1, 0, 1}, {254, 255, 256}, {255, 0}, {math.MinInt}, {math.MaxInt}, {0, math.MaxInt}, {1 << 32}, {1<<32 + 1},
		append(span(0, 255), 255), append(span(0, 255), 256), append(span(0, 255), span(0, 255)...), make([]int, 2), make([]int, 1000),
	} {
		if b, e := code.Set(l); e != api.ErrArg || len(b) != 0 {
			t.Errorf("Set(%v) = %v, %v", l, b, e)
		}
	}
}

// P8.1: the bytes of lists: how many parts, and these, in order.
func TestList(t *testing.T) {
	one, two := specBytes(good()), setBytes([]int{0, 1, 2, 3, 7})
	for i, c := range []struct {
		parts [][]byte
		want  []byte
	}{
		{nil, []byte{3, 0}},
		{[][]byte{}, []byte{3, 0}},
		{[][]byte{{2, 0}}, []byte{3, 1, 2, 0}},
		{[][]byte{one}, cat([]byte{3, 1}, one)},
		{[][]byte{one, two}, cat([]byte{3, 2}, one, two)},
		{[][]byte{two, one}, cat([]byte{3, 2}, two, one)},
		{[][]byte{two, two, {2, 0}, one, one}, cat([]byte{3, 5}, two, two, []byte{2, 0}, one, one)},
		{slices.Repeat([][]byte{two}, 127), cat([]byte{3, 127}, bytes.Repeat(two, 127))},
		{slices.Repeat([][]byte{two}, 128), cat([]byte{3, 0x80, 1}, bytes.Repeat(two, 128))},
		{slices.Repeat([][]byte{one}, 999), cat([]byte{3, 0xe7, 7}, bytes.Repeat(one, 999))},
		{slices.Repeat([][]byte{one}, 1000), cat([]byte{3, 0xe8, 7}, bytes.Repeat(one, 1000))},
	} {
		if b, e := code.List(c.parts); e != api.OK || !bytes.Equal(b, c.want) {
			t.Errorf("%d: %v, %v", i, b, e)
		}
	}
	for _, s := range specs() {
		if b, e := code.List([][]byte{specBytes(s)}); e != api.OK || !bytes.Equal(b, listBytes(specBytes(s))) {
			t.Fatalf("List of %+v: %v, %v", s, b, e)
		}
	}
	for _, l := range sets() {
		if b, e := code.List([][]byte{{2, 0}, setBytes(l)}); e != api.OK || !bytes.Equal(b, listBytes([]byte{2, 0}, setBytes(l))) {
			t.Fatalf("List of %v: %v, %v", l, b, e)
		}
	}
}

// P8.1: parts that are neither a spec's bytes nor a set's, however they aren't.
func noParts() [][]byte {
	one, two := specBytes(good()), setBytes([]int{0, 1, 2, 3, 7})
	out := [][]byte{
		nil, {}, {0}, {1}, {2}, {3}, {9}, {255}, {3, 0}, listBytes(one), listBytes(two, two),
		cat(one, []byte{0}), cat(two, []byte{0}), cat(one, one), cat(two, two), cat(one, two), cat([]byte{0}, one),
		{2, 0x80, 0}, {2, 1, 0x80, 0, 0}, {2, 2, 0, 0, 1, 0}, {2, 1, 0x80, 2, 0}, {2, 0, 0}, make([]byte, 65536), make([]byte, 65537),
		cat(two, make([]byte, 65536)), cat(one, make([]byte, 65536)),
	}
	for i := range one {
		out = append(out, one[:i])
	}
	for i := range two {
		out = append(out, two[:i])
	}
	for _, s := range wrong() {
		out = append(out, specBytes(s))
	}
	return out
}

// P8.1: nothing and ErrForm, wherever the part stands that is none.
func TestListOfNone(t *testing.T) {
	one, two := specBytes(good()), setBytes([]int{0, 1, 2, 3, 7})
	for i, p := range noParts() {
		for k, parts := range [][][]byte{{p}, {p, one, two}, {one, p, two}, {one, two, p}, {p, p}, append(slices.Repeat([][]byte{two}, 999), p)} {
			if b, e := code.List(parts); e != api.ErrForm || len(b) != 0 {
				t.Fatalf("part %d, list %d: %v, %v", i, k, b, e)
			}
		}
	}
}

// P8.1: nothing and ErrLong of more than 1000 parts, ahead of what these are.
func TestListLong(t *testing.T) {
	for _, p := range [][]byte{specBytes(good()), {2, 0}, {9}, nil, make([]byte, 65537)} {
		for _, n := range []int{1001, 1002, 1128, 2000, 65536, 65537} {
			if b, e := code.List(slices.Repeat([][]byte{p}, n)); e != api.ErrLong || len(b) != 0 {
				t.Errorf("%d times %v: %v, %v", n, p[:min(len(p), 9)], b[:min(len(b), 9)], e)
			}
		}
	}
}

// P8.1: List has a bound of its parts' number alone; what goes beyond what ReadList reads is put as well.
func TestListOfManyBytes(t *testing.T) {
	most := setBytes(steps(0, 2))
	b, e := code.List(slices.Repeat([][]byte{most}, 1000))
	if e != api.OK || !bytes.Equal(b, listBytes(slices.Repeat([][]byte{most}, 1000)...)) {
		t.Error(len(b), e)
	}
	if p, e := code.ReadList(b); e != api.ErrLong || len(p) != 0 {
		t.Error(len(p), e)
	}
}

// The tests' own specs and sets are what they are said to be.
func TestOwnWords(t *testing.T) {
	for _, s := range specs() {
		if !spec.Right(s) {
			t.Fatalf("%+v may not be", s)
		}
	}
	for _, s := range wrong() {
		if spec.Right(s) {
			t.Fatalf("%+v may be", s)
		}
	}
	for _, l := range sets() {
		if !set.Right(l) {
			t.Fatalf("%v is no set", l)
		}
	}
}
