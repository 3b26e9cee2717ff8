package share_test

import (
	"fmt"
	"math"

	"bailiwick/api"
	"bailiwick/share"
)

// Example is the document's, and what README.md shows.
func Example() {
	fmt.Println(share.Clean(-2), share.Clean(math.Inf(1)) == math.MaxFloat64)
	fmt.Println(share.Fade(20, 2), share.Fade(math.SmallestNonzeroFloat64, 1))
	fmt.Println(share.Sum([]float64{1, -5, 2}))
	uses := []api.Use{{Who: 1, Had: 6, Weight: 2}, {Who: 2, Had: 1, Weight: 1}, {Who: 3, Had: 5}}
	fmt.Println(share.Share(uses[0]), share.Share(uses[1]), share.Share(uses[2]))
	fmt.Println(share.Order(uses))
	fmt.Println(share.Bonus(uses, 1), share.Bonus(uses, 2), share.Bonus(uses, 3))
	// Output:
	// 0 true
	// 5 0
	// 3
	// 3 1 +Inf
	// [1 0 2]
	// 1 2 0
}
