package code_test

import (
	"bytes"
	"slices"
	"testing"

	"bailiwick/api"
	"bailiwick/code"
)

// check reads b as each of the three, as the model does; what is read was put in just these bytes.
func check(t *testing.T, b []byte) {
	t.Helper()
	s, e := code.ReadSpec(b)
	if want, f := wantSpec(b); s != want || e != f {
		t.Fatalf("ReadSpec(%v) = %+v, %v, not %+v, %v", b, s, e, want, f)
	}
	if put, f := code.Spec(s); e == api.OK && (f != api.OK || !bytes.Equal(put, b)) {
		t.Fatalf("of %v was read what is put as %v, %v", b, put, f)
	}
	l, e := code.ReadSet(b)
	if want, f := wantSet(b); !slices.Equal(l, want) || e != f {
		t.Fatalf("ReadSet(%v) = %v, %v, not %v, %v", b, l, e, want, f)
	}
	if put, f := code.Set(l); e == api.OK && (f != api.OK || !bytes.Equal(put, b)) {
		t.Fatalf("of %v was read what is put as %v, %v", b, put, f)
	}
	p, e := code.ReadList(b)
	if want, f := wantList(b); !slices.EqualFunc(p, want, bytes.Equal) || e != f {
		t.Fatalf("ReadList(%v) = %v, %v, not %v, %v", b, p, e, want, f)
	}
	if put, f := code.List(p); e == api.OK && (f != api.OK || !bytes.Equal(put, b)) {
		t.Fatalf("of %v was read what is put as %v, %v", b, put, f)
	}
}

// errs are what the three answer of b, each with nothing beside an error.
func errs(t *testing.T, b []byte) [3]api.Errno {
	t.Helper()
	s, e := code.ReadSpec(b)
	l, f := code.ReadSet(b)
	p, g := code.ReadList(b)
	if e != api.OK && s != (api.Spec{}) || f != api.OK && len(l) != 0 || g != api.OK && len(p) != 0 {
		t.Fatalf("%v: beside an error stands %+v, %v, %v", b, s, l, p)
	}
	return [3]api.Errno{e, f, g}
}

// samples are bytes that are something, of each kind.
func samples() [][]byte {
	one, two := specBytes(good()), setBytes([]int{0, 1, 2, 3, 7})
	return [][]byte{
		one, specBytes(full()), specBytes(api.Spec{Nodes: 1, Whole: true, Long: 1}), specBytes(api.Spec{Nodes: 1, Cores: 1, Long: 1 << 35, Prio: -1000}),
		two, setBytes(nil), setBytes([]int{255}), setBytes(span(0, 255)), setBytes([]int{1, 128, 130}), setBytes(append(span(0, 128), 255)), setBytes(steps(0, 2)),
		listBytes(), listBytes(one), listBytes(two, one), listBytes([]byte{2, 0}, two, []byte{2, 0}, one), listBytes(slices.Repeat([][]byte{{2, 0}}, 130)...),
	}
}

// P8.2, P8.3: what was put is read as it was, specs, sets, and lists of both.
func TestReadBack(t *testing.T) {
	var parts [][]byte
	for _, s := range specs() {
		b, _ := code.Spec(s)
		if x, e := code.ReadSpec(b); x != s || e != api.OK {
			t.Fatalf("of %+v is read %+v, %v", s, x, e)
		}
		parts = append(parts, b)
	}
	for _, l := range sets() {
		b, _ := code.Set(l)
		if x, e := code.ReadSet(b); !slices.Equal(x, l) || e != api.OK {
			t.Fatalf("of %v is read %v, %v", l, x, e)
		}
		parts = append(parts, b)
	}
	for size := range 30 {
		for at := 0; at+size <= len(parts); at += 17 {
			list := parts[at : at+size]
			b, e := code.List(list)
			if x, f := code.ReadList(b); !slices.EqualFunc(x, list, bytes.Equal) || e != api.OK || f != api.OK {
				t.Fatalf("of %v is read %v, %v", list, x, f)
			}
		}
	}
	for _, n := range []int{127, 128, 999, 1000} {
		list := parts[:n]
		b, e := code.List(list)
		if x, f := code.ReadList(b); !slices.EqualFunc(x, list, bytes.Equal) || e != api.OK || f != api.OK {
			t.Fatalf("of %d parts are read %d, %v", n, len(x), f)
		}
	}
}

// P8.2: bytes of one kind are none of another: it is found at the first byte.
func TestReadKinds(t *testing.T) {
	for _, b := range samples() {
		for i, e := range errs(t, b) {
			want := api.ErrForm
			if i+1 == int(b[0]) {
				want = api.OK
			}
			if e != want {
				t.Errorf("%v read as kind %d: %v", b, i+1, e)
			}
		}
	}
	for c := range 256 {
		for i, e := range errs(t, []byte{byte(c)}) {
			want := api.ErrForm
			if c == i+1 {
				want = api.ErrShort
			}
			if e != want {
				t.Errorf("%d alone read as kind %d: %v", c, i+1, e)
			}
		}
	}
	if got := errs(t, nil); got != [3]api.Errno{api.ErrShort, api.ErrShort, api.ErrShort} {
		t.Errorf("of no byte: %v", got)
	}
}

// P8.2: what is cut ends too early, wherever it is cut; and behind it nothing may stand.
func TestReadCut(t *testing.T) {
	for _, b := range samples() {
		kind := b[0] - 1
		for n := range b {
			if e := errs(t, b[:n])[kind]; e != api.ErrShort {
				t.Fatalf("%v, cut to %d: %v", b, n, e)
			}
		}
		for c := range 256 {
			if e := errs(t, cat(b, []byte{byte(c)}))[kind]; e != api.ErrForm {
				t.Fatalf("%v and %d: %v", b, c, e)
			}
		}
		if e := errs(t, cat(b, b))[kind]; e != api.ErrForm {
			t.Fatalf("twice %v: %v", b, e)
		}
	}
}

// P8.2: more than 2^16 bytes are too long, whatever they are; as many are not.
func TestReadLong(t *testing.T) {
	long, form := [3]api.Errno{api.ErrLong, api.ErrLong, api.ErrLong}, [3]api.Errno{api.ErrForm, api.ErrForm, api.ErrForm}
	for _, head := range append(samples(), nil, []byte{9}, []byte{1}, []byte{2}, []byte{3}, []byte{3, 0xe8, 7}) {
		for _, n := range []int{65537, 65538, 1 << 17, 1<<20 + 3} {
			if got := errs(t, cat(head, make([]byte, n-len(head)))); got != long {
				t.Fatalf("%v and noughts, %d bytes: %v", head, n, got)
			}
		}
		for _, n := range []int{65535, 65536} {
			if got := errs(t, cat(head, make([]byte, n-len(head)))); got != form {
				t.Fatalf("%v and noughts, %d bytes: %v", head, n, got)
			}
		}
	}
}

// P8.2: a list of 2^16 bytes is read; with one part that is a byte longer it is too long.
func TestReadLongList(t *testing.T) {
	list := func(size int) [][]byte {
		most := setBytes(steps(0, 2))
		parts := slices.Repeat([][]byte{most}, 65536/len(most)-2)
		for left := size - 3 - len(parts)*len(most); left > 0; {
			p := []byte{2, 1, 0, 0}
			if left%2 == 1 {
				p = []byte{2, 1, 0x80, 1, 0}
			} else if left < 4 || left == 6 {
				p = []byte{2, 0}
			}
			parts, left = append(parts, p), left-len(p)
		}
		return parts
	}
	for _, size := range []int{65535, 65536} {
		parts := list(size)
		b, e := code.List(parts)
		if len(b) != size || e != api.OK {
			t.Fatal(len(b), e)
		}
		if x, e := code.ReadList(b); !slices.EqualFunc(x, parts, bytes.Equal) || e != api.OK {
			t.Error(size, len(x), e)
		}
		if e := errs(t, b[:len(b)-1])[2]; e != api.ErrShort {
			t.Error(size, e)
		}
	}
	b, e := code.List(list(65537))
	if len(b) != 65537 || e != api.OK {
		t.Fatal(len(b), e)
	}
	if got := errs(t, b); got != [3]api.Errno{api.ErrLong, api.ErrLong, api.ErrLong} {
		t.Error(got)
	}
}

// noNumbers are bytes that are no number: found where they have been read, at the last one.
func noNumbers() [][]byte {
	out := [][]byte{
		{0x80, 0}, {0x81, 0}, {0xff, 0}, {0x80, 0x80, 0}, {0xff, 0xff, 0}, {0x85, 0x80, 0}, // needless bytes
		cat(bytes.Repeat([]byte{0x80}, 8), []byte{0}), cat(bytes.Repeat([]byte{0xff}, 8), []byte{0}),
		cat([]byte{0x81}, bytes.Repeat([]byte{0x80}, 7), []byte{64}), // 2^62 + 1,
		num(1<<62 + 2), num(1<<62 + 1<<55), num(1<<62 + 1<<61), num(1<<63 - 1), // and more
		bytes.Repeat([]byte{0x80}, 9), bytes.Repeat([]byte{0xff}, 9), cat(bytes.Repeat([]byte{0x80}, 8), []byte{0x81}), // more than nine bytes
		num(1 << 63)[:9], num(1<<64 - 1)[:9],
	}
	return out
}

// numbers are such as may be, in a spec or not.
func numbers() [][]byte {
	var out [][]byte
	for _, n := range []uint64{0, 1, 2, 16, 63, 64, 65, 127, 128, 129, 255, 256, 257, 1000, 1001, 16383, 16384, 1 << 28, 1 << 32, 1<<32 + 1, 1<<35 - 1, 1 << 40, 1 << 56, 1<<62 - 1, 1 << 62} {
		out = append(out, num(n))
	}
	return out
}

// P8.2: what is no number is found where it has been read, at each place where a number stands.
func TestReadNumber(t *testing.T) {
	ahead := func(kind int, pieces ...[]byte) struct {
		kind int
		b    []byte
	} {
		return struct {
			kind int
			b    []byte
		}{kind, cat(pieces...)}
	}
	f := fields(good())
	for i, head := range []struct {
		kind int
		b    []byte
	}{
		ahead(0, f[:1]...), ahead(0, f[:2]...), ahead(0, f[:3]...), ahead(0, f[:4]...), ahead(0, f[:6]...), ahead(0, f[:7]...), // a spec's six
		ahead(1, []byte{2}), ahead(1, []byte{2, 1}), ahead(1, []byte{2, 1, 5}), ahead(1, []byte{2, 2, 5, 1}), ahead(1, []byte{2, 2, 5, 1, 9}), // a set's
		ahead(2, []byte{3}), ahead(2, []byte{3, 2, 2}), ahead(2, []byte{3, 2, 2, 0, 2, 1, 5}), ahead(2, []byte{3, 1}, cat(f[:7]...)), // a list's
	} {
		for _, n := range noNumbers() {
			for cut := range n {
				if e := errs(t, cat(head.b, n[:cut]))[head.kind]; e != api.ErrShort {
					t.Fatalf("%d: %v cut to %d: %v", i, n, cut, e)
				}
			}
			for _, behind := range [][]byte{nil, {0}, {1}, {0xff}, make([]byte, 50)} {
				if e := errs(t, cat(head.b, n, behind))[head.kind]; e != api.ErrForm {
					t.Fatalf("%d: %v and %v: %v", i, n, behind, e)
				}
			}
		}
	}
}

// P8.2: what a spec may not be is found at its end: till then it ends too early.
func TestReadWrongSpec(t *testing.T) {
	for _, s := range wrong() {
		b := specBytes(s)
		for n := range b {
			if e := errs(t, b[:n])[0]; e != api.ErrShort {
				t.Fatalf("%+v, cut to %d: %v", s, n, e)
			}
			for _, parts := range [][][]byte{{b[:n]}, {{2, 0}, b[:n]}} {
				if e := errs(t, listBytes(parts...))[2]; e != api.ErrShort {
					t.Fatalf("a list of %+v, cut to %d: %v", s, n, e)
				}
			}
		}
		if e := errs(t, b)[0]; e != api.ErrForm {
			t.Fatalf("%+v: %v", s, e)
		}
		// Of a list's part too, also where another one would have to follow.
		for _, l := range [][]byte{listBytes(b), cat([]byte{3, 2}, b), cat([]byte{3, 2, 2, 0}, b), cat([]byte{3, 0xe8, 7}, b)} {
			if e := errs(t, l)[2]; e != api.ErrForm {
				t.Fatalf("%v: %v", l, e)
			}
		}
	}
	for i, f := range fields(good()) {
		if i == 0 || i == 4 || i == 5 {
			continue
		}
		for _, n := range numbers() {
			x := fields(good())
			x[i] = n
			check(t, cat(x...))
			check(t, cat(x[:i+1]...))
			check(t, listBytes(cat(x...), cat(x...)))
			x[i] = cat(n, f)
			check(t, cat(x...))
		}
	}
}

// P8.2: a text's length that is none of a tag is found where it has been read; one that may be waits for its bytes.
func TestReadTag(t *testing.T) {
	f := fields(good())
	head := cat(f[:4]...)
	for n := range 300 {
		want := api.ErrShort
		if n > 16 {
			want = api.ErrForm
		}
		size := num(uint64(n))
		for _, b := range [][]byte{cat(head, size), cat(head, size, bytes.Repeat([]byte{'a'}, max(n-1, 0))), cat(head, size, bytes.Repeat([]byte{0xff}, n))} {
			if e := errs(t, b)[0]; e != want {
				t.Fatalf("a tag of %d bytes: %v", n, e)
			}
		}
		s := good()
		s.Tag = string(bytes.Repeat([]byte{'a'}, n))
		check(t, specBytes(s))
		check(t, listBytes(specBytes(s)))
	}
	for _, n := range numbers() {
		check(t, cat(head, n))
		check(t, cat(head, n, make([]byte, 100)))
	}
	for c := range 256 {
		s := good()
		s.Tag = "a" + string([]byte{byte(c)})
		check(t, specBytes(s))
	}
}

// P8.2: a flag is a byte, 0 or 1, and what it may not be is found where it has been read.
func TestReadFlag(t *testing.T) {
	for c := range 256 {
		f := fields(good())
		f[5] = []byte{byte(c)}
		cut, all := api.ErrShort, api.OK
		if c > 1 {
			cut, all = api.ErrForm, api.ErrForm
		}
		if e := errs(t, cat(f[:6]...))[0]; e != cut {
			t.Errorf("flag %d, and no more: %v", c, e)
		}
		if e := errs(t, cat(f...))[0]; e != all {
			t.Errorf("flag %d: %v", c, e)
		}
		if s, e := code.ReadSpec(cat(f...)); e == api.OK && s.Whole != (c == 1) {
			t.Errorf("flag %d: %v", c, s.Whole)
		}
	}
}

// P8.2: a number of runs above 256 is found where it has been read; as many would have to come.
func TestReadRuns(t *testing.T) {
	for n := range 1200 {
		b := cat([]byte{2}, num(uint64(n)))
		want := api.ErrShort
		if n == 0 {
			want = api.OK
		} else if n > 256 {
			want = api.ErrForm
		}
		if e := errs(t, b)[1]; e != want {
			t.Fatalf("%d runs, and no more: %v", n, e)
		}
		if e := errs(t, listBytes(b))[2]; e != want {
			t.Fatalf("%d runs of a list's part, and no more: %v", n, e)
		}
	}
	// 128 runs are as many as there is room for: what follows them goes above 255, once both numbers have been read.
	runs := cat([]byte{0, 0}, bytes.Repeat([]byte{2, 0}, 127))
	for _, n := range []uint64{0, 1, 2, 126, 127, 128, 129, 130, 255, 256, 257} {
		b := cat([]byte{2}, num(n))
		for k := range len(runs) + 1 {
			check(t, cat(b, runs[:k]))
		}
		check(t, cat(b, runs, []byte{2}))
		check(t, cat(b, runs, []byte{2, 0}))
	}
	for _, n := range numbers() {
		check(t, cat([]byte{2}, n))
		check(t, cat([]byte{2}, n, make([]byte, 100)))
	}
}

// P8.2: a run side by side with the one ahead, or above 255, is found where both its numbers have been read, however great they are.
func TestReadRun(t *testing.T) {
	heads := [][]byte{{2, 1}, {2, 2, 0, 0}, {2, 2, 5, 1}, {2, 2, 0, 127}, cat([]byte{2, 2, 0}, num(250)), cat([]byte{2, 2, 0}, num(255)), cat([]byte{2, 2}, num(255), []byte{0}), cat([]byte{2, 3, 0, 0, 2}, num(200)), {2, 3, 1, 1, 2, 1}}
	var all [][]byte
	for _, n := range []uint64{0, 1, 2, 3, 4, 5, 6, 53, 54, 55, 126, 127, 128, 129, 247, 248, 249, 250, 251, 252, 253, 254, 255, 256, 257, 511, 512, 1<<32 - 1, 1 << 32, 1<<32 + 2, 1<<62 - 255, 1<<62 - 254, 1<<62 - 1, 1 << 62} {
		all = append(all, num(n))
	}
	for _, head := range heads {
		for _, ahead := range all {
			if e := errs(t, cat(head, ahead))[1]; e != api.ErrShort {
				t.Fatalf("%v, and %v alone: %v", head, ahead, e)
			}
			for _, rest := range all {
				b := cat(head, ahead, rest)
				check(t, b)
				check(t, b[:len(b)-1])
				check(t, cat(b, []byte{2, 0}))
				check(t, listBytes(b))
				check(t, cat([]byte{3, 2}, b))
			}
		}
	}
}

// P8.2: all runs, of one and of two: what they are, or that they are none.
func TestReadAllRuns(t *testing.T) {
	for a := range uint64(260) {
		for b := range uint64(260) {
			x := cat([]byte{2, 1}, num(a), num(b))
			l, e := code.ReadSet(x)
			if a+b > 255 {
				if e != api.ErrForm || len(l) != 0 {
					t.Fatalf("%v: %v, %v", x, l, e)
				}
			} else if e != api.OK || !slices.Equal(l, span(int(a), int(a+b))) {
				t.Fatalf("%v: %v, %v", x, l, e)
			}
			x = cat([]byte{2, 2, 3, 2}, num(a), num(b))
			l, e = code.ReadSet(x)
			if a < 2 || 5+a+b > 255 {
				if e != api.ErrForm || len(l) != 0 {
					t.Fatalf("%v: %v, %v", x, l, e)
				}
			} else if e != api.OK || !slices.Equal(l, append(span(3, 5), span(int(5+a), int(5+a+b))...)) {
				t.Fatalf("%v: %v, %v", x, l, e)
			}
		}
	}
}

// P8.2: a list of more than 1000 parts is none, found where their number has been read; as many are waited for.
func TestReadParts(t *testing.T) {
	for n := range 1200 {
		b := cat([]byte{3}, num(uint64(n)))
		short, all := api.ErrShort, api.OK
		if n == 0 {
			short = api.OK
		} else if n > 1000 {
			short, all = api.ErrForm, api.ErrForm
		}
		if e := errs(t, b)[2]; e != short {
			t.Fatalf("%d parts, and no more: %v", n, e)
		}
		if e := errs(t, cat(b, bytes.Repeat([]byte{2, 0}, n)))[2]; e != all {
			t.Fatalf("%d parts: %v", n, e)
		}
		if e := errs(t, cat(b, bytes.Repeat([]byte{2, 0}, n+1)))[2]; e != api.ErrForm {
			t.Fatalf("%d parts, and one more: %v", n, e)
		}
	}
	for _, n := range numbers() {
		check(t, cat([]byte{3}, n))
		check(t, cat([]byte{3}, n, bytes.Repeat([]byte{2, 0}, 1000)))
	}
}

// P8.2: a part's kind that may not be is found where it has been read.
func TestReadPartKind(t *testing.T) {
	one := specBytes(good())
	for c := range 256 {
		want := api.ErrForm
		if c == 1 || c == 2 {
			want = api.ErrShort
		}
		for _, head := range [][]byte{{3, 1}, {3, 2, 2, 0}, cat([]byte{3, 3}, one), cat([]byte{3, 3, 2, 0}, one)} {
			if e := errs(t, cat(head, []byte{byte(c)}))[2]; e != want {
				t.Fatalf("%v, and a part of kind %d: %v", head, c, e)
			}
		}
	}
	for _, p := range noParts() {
		check(t, listBytes(p))
		check(t, listBytes([]byte{2, 0}, p))
		check(t, listBytes(one, p, one))
	}
}

// P8.2, P8.3: all bytes of a few that count, up to seven of them, behind each kind.
func TestReadAllShort(t *testing.T) {
	var grow func(b []byte, left int)
	grow = func(b []byte, left int) {
		check(t, b)
		if left == 0 {
			return
		}
		for _, c := range []byte{0, 1, 2, 3, 0x80, 0x81} {
			grow(append(b[:len(b):len(b)], c), left-1)
		}
	}
	for kind := range byte(5) {
		grow([]byte{kind}, 6)
	}
	grow([]byte{1, 1, 1, 0}, 6) // of a spec, behind its numbers
	grow([]byte{2, 2, 0}, 6)
	grow([]byte{3, 1, 2}, 6)
}

// P8.2, P8.3: samples with any byte changed, left out, or put in.
func TestReadChanged(t *testing.T) {
	for _, b := range samples() {
		if len(b) > 100 {
			continue
		}
		for i := range b {
			check(t, cat(b[:i], b[i+1:]))
			for c := range 256 {
				x := bytes.Clone(b)
				x[i] = byte(c)
				check(t, x)
				check(t, cat(b[:i], []byte{byte(c)}, b[i:]))
				check(t, x[:i+1])
			}
		}
	}
}

// P8.2, P8.3: samples with any two bytes changed, each to one of a few.
func TestReadChangedTwice(t *testing.T) {
	for _, b := range samples() {
		if len(b) > 40 {
			continue
		}
		for i := range b {
			for k := range i {
				x := bytes.Clone(b)
				for _, c := range []byte{0, 1, 2, 3, 17, 127, 0x80, 0x81, 0xff} {
					for _, d := range []byte{0, 1, 2, 127, 0x80, 0xff} {
						x[i], x[k] = c, d
						check(t, x)
					}
				}
			}
		}
	}
}
