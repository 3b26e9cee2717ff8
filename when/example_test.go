package when_test

import (
	"fmt"

	"bailiwick/api"
	"bailiwick/when"
)

// ExamplePlus is the document's example of a time that doesn't go over.
func ExamplePlus() {
	fmt.Println(when.Plus(api.Never, 5) == api.Never)
	// Output: true
}

// ExampleMeets is the document's example of spans that lie side by side.
func ExampleMeets() {
	fmt.Println(when.Meets(0, 5, 5, 9))
	// Output: false
}

// ExampleWithin is the one that README.md shows.
func ExampleWithin() {
	fmt.Println(when.Within(2, 4, 0, 9))
	// Output: true
}
