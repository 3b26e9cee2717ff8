package health_test

import (
	"fmt"

	"bailiwick/api"
	"bailiwick/health"
)

// Example is the document's, which README.md shows too.
func Example() {
	g := []api.Thing{
		{Kind: api.Cluster, Up: -1},
		{Kind: api.Node, Up: 0, Tag: "fast"},
		{Kind: api.Core, Up: 1},
		{Kind: api.Core, Up: 1},
	}
	h := health.New(g)
	h, e := health.Set(g, h, 1, api.Drain)
	fmt.Println(h, e, health.Right(g, h))
	fmt.Println(health.Usable(g, h), health.Works(g, h))
	h, e = health.Set(g, h, 3, api.Down)
	fmt.Println(h, e, health.Worst(g, h, 2), health.Worst(g, h, 3))
	fmt.Println(health.Usable(g, h), health.Works(g, h))
	// Output:
	// [0 1 0 0] 0 true
	// [0] [0 1 2 3]
	// [0 1 0 2] 0 1 2
	// [0] [0 1 2]
}
