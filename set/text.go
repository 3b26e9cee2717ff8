package set

import (
	"strconv"
	"strings"

	"bailiwick/api"
)

// Show a set.
func Show(a []int) string {
	if !Right(a) {
		return ""
	}
	var text []byte
	for len(a) > 0 {
		size := runSize(a)
		if len(text) > 0 {
			text = append(text, ',')
		}
		text = strconv.AppendInt(text, int64(a[0]), 10)
		if size > 1 {
			text = append(text, '-')
			text = strconv.AppendInt(text, int64(a[size-1]), 10)
		}
		a = a[size:]
	}
	return string(text)
}

// runSize is how many numbers at the beginning of l, which isn't empty, stand side by side.
func runSize(l []int) int {
	size := 1
	for size < len(l) && l[size] == l[size-1]+1 {
		size++
	}
	return size
}

// Parse a set: what is read must show as it was.
func Parse(text string) ([]int, api.Errno) {
	if len(text) > api.MaxText {
		return nil, api.ErrLong
	}
	if text == "" {
		return nil, api.OK
	}
	var l []int
	least := 0
	for _, run := range strings.Split(text, ",") {
		first, last, ok := readRun(run)
		if !ok || first < least {
			return nil, api.ErrForm
		}
		for n := first; n <= last; n++ {
			l = append(l, n)
		}
		least = last + 2 // a run side by side with this one would have been shown as part of it
	}
	return l, api.OK
}

// readRun reads a number alone, or two with a - between, of which the second one is greater.
func readRun(run string) (first, last int, ok bool) {
	head, tail, two := strings.Cut(run, "-")
	first, ok = readNumber(head)
	if !ok || !two {
		return first, first, ok
	}
	last, ok = readNumber(tail)
	return first, last, ok && first < last
}

// readNumber takes digits alone: strconv would let signs and needless noughts pass.
func readNumber(s string) (int, bool) {
	if s == "" || s[0] == '0' && len(s) > 1 {
		return 0, false
	}
	n := 0
	for i := range len(s) {
		if s[i] < '0' || s[i] > '9' {
			return 0, false
		}
		n = n*10 + int(s[i]-'0')
		if n >= api.MaxThings { // told at once, so that n never goes over
			return 0, false
		}
	}
	return n, true
}
