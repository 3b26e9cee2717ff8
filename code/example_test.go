package code_test

import (
	"fmt"

	"bailiwick/api"
	"bailiwick/code"
)

// Example is the document's, which README.md shows too.
func Example() {
	l, e := code.Set([]int{0, 1, 2, 3, 7})
	fmt.Println(l, e)
	fmt.Println(code.ReadSet(l))
	s, e := code.Spec(api.Spec{Nodes: 2, Cores: 3, Tag: "a", Long: 300, Prio: -2})
	fmt.Println(s, e)
	fmt.Println(code.ReadSpec(s))
	b, e := code.List([][]byte{l, s})
	fmt.Println(b, e)
	fmt.Println(code.ReadList(b))
	fmt.Println(code.ReadSet(l[:5]))
	fmt.Println(code.ReadSet(s))
	// Output:
	// [2 2 0 3 4 0] 0
	// [0 1 2 3 7] 0
	// [1 2 3 0 1 97 0 172 2 3] 0
	// {2 3 0 a false 300 -2} 0
	// [3 2 2 2 0 3 4 0 1 2 3 0 1 97 0 172 2 3] 0
	// [[2 2 0 3 4 0] [1 2 3 0 1 97 0 172 2 3]] 0
	// [] 2
	// [] 3
}
