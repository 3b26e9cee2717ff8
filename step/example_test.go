package step_test

import (
	"fmt"

	"bailiwick/step"
)

// ExampleTake is the document's example.
func ExampleTake() {
	p, _ := step.New(4)
	p, e := step.Take(p, 2, 5, 3)
	fmt.Println(p, e)
	// Output: [{0 4} {2 1} {5 4}] 0
}

// ExampleFirst is the document's example.
func ExampleFirst() {
	p, _ := step.New(4)
	p, _ = step.Take(p, 2, 5, 3)
	fmt.Println(step.First(p, 1, 2, 3))
	// Output: 5 true
}
