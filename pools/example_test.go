package pools_test

import (
	"fmt"

	"bailiwick/api"
	"bailiwick/pools"
)

// ExampleFirst is the document's example.
func ExampleFirst() {
	l, _ := pools.New([]int{4, 2})
	l, _ = pools.Take(l, 0, 5, []int{3, 0})
	l, _ = pools.Take(l, 0, 9, []int{0, 2})
	fmt.Println(pools.First(l, 0, 1, []int{2, 1}))
	// Output: 9 true
}

// ExampleTake is the one that README.md shows.
func ExampleTake() {
	l, _ := pools.New([]int{4, 2})
	l, e := pools.Take(l, 0, 5, []int{3, 1})
	fmt.Println(pools.At(l, 4), e == api.OK)
	l, e = pools.Take(l, 3, 6, []int{1, 2})
	fmt.Println(pools.At(l, 4), e == api.ErrFull)
	fmt.Println(pools.First(l, 0, 2, []int{2, 2}))
	// Output:
	// [1 1] true
	// [1 1] true
	// 5 true
}
