package code

import "bailiwick/api"

// A number's bytes hold seven bits each; the eighth one says that more follow.
const (
	more    = 1 << 7
	numBits = 7
)

// run of numbers side by side, both ends counted in.
type run struct{ first, last int }

// putSpec puts s, which may be.
func putSpec(s api.Spec) []byte {
	b := []byte{kindSpec}
	b = putNumber(b, int64(s.Nodes))
	b = putNumber(b, int64(s.Cores))
	b = putNumber(b, int64(s.Gpus))
	b = putText(b, s.Tag)
	b = putFlag(b, s.Whole)
	b = putNumber(b, s.Long)
	return putSigned(b, int64(s.Prio))
}

// putSet puts l, which is a set.
func putSet(l []int) []byte {
	all := runs(l)
	b := putNumber([]byte{kindSet}, int64(len(all)))
	last := 0
	for _, r := range all {
		b = putNumber(b, int64(r.first-last))
		b = putNumber(b, int64(r.last-r.first))
		last = r.last
	}
	return b
}

// runs of a set, none of them longer than it need be.
func runs(l []int) []run {
	var all []run
	for _, n := range l {
		if end := len(all) - 1; end >= 0 && all[end].last == n-1 {
			all[end].last = n
		} else {
			all = append(all, run{n, n})
		}
	}
	return all
}

// putNumber puts n, which isn't below 0, behind b.
func putNumber(b []byte, n int64) []byte {
	for n >= more {
		b = append(b, byte(n%more)|more)
		n >>= numBits
	}
	return append(b, byte(n))
}

func putSigned(b []byte, n int64) []byte {
	if n < 0 {
		return putNumber(b, -2*n-1)
	}
	return putNumber(b, 2*n)
}

func putText(b []byte, s string) []byte {
	return append(putNumber(b, int64(len(s))), s...)
}

func putFlag(b []byte, on bool) []byte {
	if on {
		return append(b, 1)
	}
	return append(b, 0)
}
