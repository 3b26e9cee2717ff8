package slot_test

import (
	"fmt"

	"bailiwick/api"
	"bailiwick/graph"
	"bailiwick/slot"
)

// Example is the document's, and what README.md shows.
func Example() {
	g := []api.Thing{
		{Kind: api.Cluster, Up: -1},
		{Kind: api.Node, Up: 0, Tag: "fast"},
		{Kind: api.Core, Up: 1},
		{Kind: api.Core, Up: 1},
		{Kind: api.Node, Up: 0},
		{Kind: api.Core, Up: 4},
	}
	use := graph.Under(g, 0)
	table := []api.Held{{ID: 1, Things: []int{2}, From: 0, To: 5}}
	s := api.Spec{Nodes: 1, Cores: 2, Long: 3}
	l, ok := slot.At(g, use, table, s, 4, api.Never)
	fmt.Println(l, ok)
	at, l, ok := slot.First(g, use, table, s, 0, api.Never)
	fmt.Println(at, l, ok)
	at, l, ok = slot.First(g, use, table, s, 0, 7)
	fmt.Println(at, l, ok)
	table, e := slot.Plan(g, use, table, []api.Want{{ID: 7, Spec: s}, {ID: 4, Spec: s}}, 0, api.Never)
	fmt.Println(table, e)
	// Output:
	// [] false
	// 5 [2 3] true
	// 0 [] false
	// [{1 [2] 0 5} {4 [2 3] 8 11} {7 [2 3] 5 8}] 0
}
