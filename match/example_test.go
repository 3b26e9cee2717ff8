package match_test

import (
	"fmt"

	"bailiwick/api"
	"bailiwick/graph"
	"bailiwick/match"
	"bailiwick/set"
)

// Example is the document's, and what README.md shows.
func Example() {
	g := []api.Thing{
		{Kind: api.Cluster, Up: -1},
		{Kind: api.Node, Up: 0, Tag: "fast"},
		{Kind: api.Core, Up: 1},
		{Kind: api.Core, Up: 1},
		{Kind: api.Node, Up: 0},
		{Kind: api.Core, Up: 4},
	}
	free := graph.Under(g, 0)
	s := api.Spec{Nodes: 2, Cores: 1, Long: 5}
	l, ok := match.Find(g, free, s)
	fmt.Println(l, ok, match.Many(g, free, s))
	free = set.Less(free, l)
	l, ok = match.Find(g, free, s)
	fmt.Println(l, ok, match.Many(g, free, s))
	fmt.Println(match.Suits(g, free, s, 1), match.Suits(g, free, s, 4), match.Could(g, s))
	l, ok = match.Find(g, graph.Under(g, 0), api.Spec{Nodes: 1, Whole: true, Tag: "fast", Long: 5})
	fmt.Println(l, ok)
	// Output:
	// [2 5] true 2
	// [] false 1
	// true false true
	// [1 2 3] true
}
