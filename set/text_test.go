package set_test

import (
	"slices"
	"strings"
	"testing"

	"bailiwick/api"
	"bailiwick/set"
)

// pairs are sets and their texts.
func pairs() []struct {
	l    []int
	text string
} {
	return []struct {
		l    []int
		text string
	}{
		{nil, ""},
		{[]int{0}, "0"},
		{[]int{255}, "255"},
		{[]int{0, 1}, "0-1"},
		{[]int{0, 2}, "0,2"},
		{[]int{0, 1, 2, 3, 7}, "0-3,7"},
		{[]int{5, 7, 8, 9, 255}, "5,7-9,255"},
		{[]int{9, 10, 99, 100, 101}, "9-10,99-101"},
		{[]int{62, 63, 64, 65, 127, 128}, "62-65,127-128"},
		{[]int{0, 10, 20, 30}, "0,10,20,30"},
		{span(0, 255), "0-255"},
		{append(span(0, 253), 255), "0-253,255"},
		{[]int{254, 255}, "254-255"},
	}
}

func TestShow(t *testing.T) {
	for _, c := range pairs() {
		if got := set.Show(c.l); got != c.text {
			t.Errorf("Show(%v) = %q, not %q", c.l, got, c.text)
		}
	}
	if got := set.Show([]int{}); got != "" {
		t.Errorf("Show of an empty list = %q", got)
	}
}

func TestParse(t *testing.T) {
	for _, c := range pairs() {
		if got, e := set.Parse(c.text); e != api.OK || !slices.Equal(got, c.l) {
			t.Errorf("Parse(%q) = %v, %d", c.text, got, e)
		}
	}
}

func TestParseForm(t *testing.T) {
	for _, text := range []string{
		",", "1,", ",1", "1,,3", "0,,", "-", "-1", "1-", "--", "1--3", "1-2-3", "1-3-", "-1-3",
		"01", "00", "0-01", "00-1", "001", "0000000000000000000000001", "1,03", "010-20",
		"1-1", "2-1", "255-0", "1,2", "1-2,3", "1,2-3", "1-3,4-6", "0-254,255", "0,1-255",
		"3,1", "1,1", "1-5,3", "1-5,5", "1-5,3-9", "1-5,1-5", "7,0-3",
		"256", "0-256", "256-257", "300", "999", "1000", "2560", "18446744073709551616", "18446744073709551617", "0-18446744073709551617",
		"a", "1a", "a1", "1 2", " 1", "1 ", "1, 3", "1 -3", "+1", "1,+3", "0x1", "1_0", "1.0", "1e1", "1;3", "1\n", "\n", "\x00", "1\x00", "٣", "１", "1–3", "\xff",
		"{}", "none", "0-3,7,",
	} {
		if l, e := set.Parse(text); e != api.ErrForm || len(l) != 0 {
			t.Errorf("Parse(%q) = %v, %d", text, l, e)
		}
	}
}

// Of all bytes only the digits make a number.
func TestParseBytes(t *testing.T) {
	for b := range 256 {
		if b >= '0' && b <= '9' {
			continue
		}
		x := string([]byte{byte(b)})
		for _, text := range []string{x, "1" + x, x + "1", "1" + x + x + "9", "1-2" + x, "1-" + x + "9", "1," + x, "1,3" + x} {
			if l, e := set.Parse(text); e != api.ErrForm || len(l) != 0 {
				t.Errorf("Parse(%q) = %v, %d", text, l, e)
			}
		}
	}
}

// A text of just MaxText bytes is judged by its form; only a longer one is too long, whatever stands in it.
func TestParseLong(t *testing.T) {
	for _, unit := range []string{"1", ",", "1,", "0", "-", "x", "\x00", "é"} {
		full := strings.Repeat(unit, api.MaxText)[:api.MaxText]
		if l, e := set.Parse(full); e != api.ErrForm || len(l) != 0 {
			t.Errorf("%d bytes of %q: %v, %d", len(full), unit, l, e)
		}
		if l, e := set.Parse(full + "1"); e != api.ErrLong || len(l) != 0 {
			t.Errorf("%d bytes of %q: %v, %d", len(full)+1, unit, l, e)
		}
	}
	if l, e := set.Parse("0-3,7" + strings.Repeat(" ", api.MaxText)); e != api.ErrLong || len(l) != 0 {
		t.Errorf("a set's text with blanks behind: %v, %d", l, e)
	}
}

// What is shown is read as it was.
func TestShownIsRead(t *testing.T) {
	sets := someSets()
	for bits := range 1 << 12 { // all sets of the edges
		var l []int
		for i, n := range edges() {
			if bits>>i&1 == 1 {
				l = append(l, n)
			}
		}
		sets = append(sets, l)
	}
	for first := range api.MaxThings {
		for last := first; last < api.MaxThings; last++ {
			sets = append(sets, span(first, last))
		}
	}
	for _, l := range sets {
		if got, e := set.Parse(set.Show(l)); e != api.OK || !slices.Equal(got, l) {
			t.Fatalf("%v is shown as %q, and read as %v, %d", l, set.Show(l), got, e)
		}
	}
}

// Of all short texts just those are read that a set is shown as.
func TestReadIsShown(t *testing.T) {
	const letters, longest = "0125-,", 6
	texts := []string{""}
	read := 0
	for from := 0; from < len(texts); from++ {
		text := texts[from]
		if len(text) < longest {
			for i := range len(letters) {
				texts = append(texts, text+letters[i:i+1])
			}
		}
		l, e := set.Parse(text)
		switch {
		case e == api.OK && (!set.Right(l) || set.Show(l) != text):
			t.Fatalf("%q is read as %v, which shows as %q", text, l, set.Show(l))
		case e != api.OK && (e != api.ErrForm || len(l) != 0):
			t.Fatalf("%q: %v, %d", text, l, e)
		case e == api.OK:
			read++
		}
	}
	if want := shownBy(letters, longest); read != want {
		t.Errorf("%d texts are read, %d sets are shown as such", read, want)
	}
}

// shownBy counts the sets whose texts are of these letters, and no longer than that.
func shownBy(letters string, longest int) int {
	var runs [][]int
	for first := range api.MaxThings {
		for last := first; last < api.MaxThings; last++ {
			run := span(first, last)
			if text := set.Show(run); len(text) <= longest && strings.Trim(text, letters) == "" {
				runs = append(runs, run)
			}
		}
	}
	var grow func(l []int) int
	grow = func(l []int) int {
		if len(set.Show(l)) > longest {
			return 0
		}
		count := 1
		for _, run := range runs {
			if len(l) == 0 || run[0] > l[len(l)-1]+1 {
				count += grow(append(slices.Clone(l), run...))
			}
		}
		return count
	}
	return grow(nil)
}
