package held_test

import (
	"fmt"

	"bailiwick/api"
	"bailiwick/held"
)

// Example is the document's, and what README.md shows.
func Example() {
	l, e := held.Add(nil, api.Held{ID: 1, Things: []int{2, 3}, From: 0, To: 5})
	fmt.Println(len(l), e)
	_, e = held.Add(l, api.Held{ID: 2, Things: []int{3}, From: 4, To: 9})
	fmt.Println(e == api.ErrFull)
	l, e = held.Add(l, api.Held{ID: 2, Things: []int{3}, From: 5, To: 9})
	fmt.Println(len(l), e)
	fmt.Println(held.Busy(l, 4, 6), held.Busy(l, 5, 6), held.Ends(l, 0))
	l, e = held.Cut(l, 2, 7)
	h, ok := held.Get(l, 2)
	fmt.Println(e, h.To, ok)
	rest, gone := held.Over(l, 5)
	fmt.Println(len(rest), len(gone), gone[0].ID)
	_, h, e = held.Drop(l, 1)
	fmt.Println(h.Things, e)
	// Output:
	// 1 0
	// true
	// 2 0
	// [2 3] [3] [5 9]
	// 0 7 true
	// 1 1 1
	// [2 3] 0
}
