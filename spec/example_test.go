package spec_test

import (
	"fmt"

	"bailiwick/api"
	"bailiwick/spec"
)

// Example is the document's, which README.md shows too.
func Example() {
	s := api.Spec{Nodes: 2, Cores: 3, Gpus: 1, Tag: "fast", Long: 5}
	fmt.Println(spec.Right(s))
	fmt.Println(spec.Asks(s))
	fmt.Println(spec.Ends(s, 10))
	p, e := spec.Part(s, 1)
	fmt.Println(p.Nodes, e, spec.Ahead(p, s))
	fmt.Println(spec.Part(s, 2))
	// Output:
	// true
	// 2 6 2
	// 15
	// 1 0 true
	// {0 0 0  false 0 0} 6
}
