package graph_test

import (
	"fmt"

	"bailiwick/api"
	"bailiwick/graph"
)

// Example is the document's, which README.md shows too.
func Example() {
	g := []api.Thing{
		{Kind: api.Cluster, Up: -1},
		{Kind: api.Node, Up: 0, Tag: "fast"},
		{Kind: api.Core, Up: 1},
		{Kind: api.Core, Up: 1},
	}
	fmt.Println(graph.Right(g), graph.Tag("fast"))
	fmt.Println(graph.Under(g, 1), graph.Above(g, 3))
	fmt.Println(graph.Node(g, 3), graph.Node(g, 0))
	fmt.Println(graph.Kinds(g, []int{1, 2, 3}))
	fmt.Println(graph.Whole(g, []int{2}), graph.Nodes(g))
	// Output:
	// true true
	// [1 2 3] [0 1 3]
	// 1 -1
	// [0 0 1 2 0]
	// [0 1 2] [1]
}
