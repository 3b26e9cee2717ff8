package set_test

import (
	"fmt"

	"bailiwick/api"
	"bailiwick/set"
)

// Example is the one that README.md shows.
func Example() {
	l, e := set.Parse("0-3,7")
	fmt.Println(l, e == api.OK)
	if e == api.OK && set.Has(l, 7) {
		l = set.Less(l, []int{1, 2})
	}
	fmt.Println(set.Show(l))
	// Output:
	// [0 1 2 3 7] true
	// 0,3,7
}
