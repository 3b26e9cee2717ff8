package queue_test

import (
	"fmt"

	"bailiwick/api"
	"bailiwick/queue"
)

// Example is the document's, and what README.md shows.
func Example() {
	s := api.Spec{Nodes: 1, Cores: 2, Long: 10}
	l, id, e := queue.Add(nil, s, nil, 0)
	fmt.Println(len(l), id, e)
	l, id, e = queue.Add(l, s, []int{1}, 3)
	fmt.Println(len(l), id, e)
	s.Prio = 5
	l, id, e = queue.Add(l, s, nil, 3)
	fmt.Println(len(l), id, e)
	_, _, e = queue.Add(l, s, []int{9}, 3)
	fmt.Println(e == api.ErrNone)
	fmt.Println(queue.Ready(l), queue.Lost(l), queue.Counts(l))
	l, e = queue.Do(l, 1, api.DoCancel, 4)
	j, ok := queue.Get(l, 1)
	fmt.Println(e, j.State == api.Cancelled, j.To, ok)
	fmt.Println(queue.Ready(l), queue.Lost(l), queue.Counts(l))
	// Output:
	// 1 1 0
	// 2 2 0
	// 3 3 0
	// true
	// [3 1] [] [3 0 0 0 0 0 0]
	// 0 true 4 true
	// [3] [2] [2 0 0 0 0 1 0]
}
