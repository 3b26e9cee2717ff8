package pick_test

import (
	"fmt"

	"bailiwick/api"
	"bailiwick/graph"
	"bailiwick/held"
	"bailiwick/pick"
)

// Example is the document's, and what README.md shows.
func Example() {
	g := []api.Thing{
		{Kind: api.Cluster, Up: -1},
		{Kind: api.Node, Up: 0},
		{Kind: api.Core, Up: 1},
		{Kind: api.Core, Up: 1},
		{Kind: api.Node, Up: 0},
		{Kind: api.Core, Up: 4},
	}
	use := graph.Under(g, 1)
	table := []api.Held{{ID: 1, Things: []int{2}, From: 0, To: 5}}
	next := []api.Want{
		{ID: 2, Spec: api.Spec{Nodes: 1, Cores: 2, Long: 3}},
		{ID: 3, Spec: api.Spec{Nodes: 1, Cores: 1, Long: 4}},
		{ID: 4, Spec: api.Spec{Nodes: 1, Cores: 1, Long: 9}},
	}
	begin, kept, e := pick.Pick(g, use, table, next, 1, api.Never, api.Fcfs, 0)
	fmt.Println(begin, kept, e)
	begin, kept, e = pick.Pick(g, use, table, next, 1, api.Never, api.Easy, 0)
	fmt.Println(begin, kept, e)
	begin, kept, e = pick.Pick(g, use, table, next, 1, api.Never, api.Conser, 2)
	fmt.Println(begin, kept, e)
	more, e := held.Add(table, begin[0])
	fmt.Println(pick.Later(g, use, table, more, next[0].Spec, 1, api.Never), e)
	more, e = held.Add(table, api.Held{ID: 4, Things: []int{3}, From: 1, To: 10})
	fmt.Println(pick.Later(g, use, table, more, next[0].Spec, 1, api.Never), e)
	// Output:
	// [] [] 0
	// [{3 [3] 1 5}] [{2 [2 3] 5 8}] 0
	// [{3 [3] 1 5}] [{2 [2 3] 5 8} {4 [2] 8 17}] 0
	// false 0
	// true 0
}
